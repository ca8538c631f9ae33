import Derived.Test.YtikojfajahnhgaaGreatKaw
import Derived.Test.YtikojfajahnhgaaGreatKao
import Derived.Test.YtikojfajahnhgaaGreatKax
set_option linter.all false
set_option maxHeartbeats 12800000
set_option maxRecDepth 100000
namespace Go.Proofs.YtikojfajahnhgaaGreat
attribute [local simp] At I6 Pn mzI
attribute [local go_sem] At I6 Pn
open Go.RowKit Go.Proofs.Tryz
variable{P:Prop}
section
attribute [local go_sem ↓] wp_at_zero wp_at_succ
def DB(w:World)(v:Value)(f:F):Prop:=
 ∃b o,v=.pointer (some ⟨b,o,none⟩)/\w.cell? ⟨b,o,none⟩=some (.int .i64 f.tag)/\w.cell? ⟨b,o+1,none⟩=some (.string f.z)/\∃a c,w.cell? ⟨b,o+2,none⟩=some (.slice a f.s.length c)/\Bt w a f.s
def DB.d{w w' v f}(h:DB w v f)(g:Bw w w'):DB w' v f:=by
 obtain⟨b,o,e,O,k,a,c,i,j⟩:=h;exact⟨b,o,e,zab g O,zab g k,a,c,zab g i,j.d g⟩
def FX{P:World->Prop}{w o1 O a}(h:∀wt,Bw w wt->wt.heap[w.heap.size]?=some o1->wt.heap[w.heap.size+1]?=some O->wt.heap[w.heap.size+2]?=some a->P wt):P (((w.alloc o1).alloc O).alloc a):=by
 refine h _ ((Aj.alloc qe _).alloc qf _) ?_ ?_ ?_
 .exact(yS _ _ _ qf).c ((yS _ _ _ qe).c (heap_alloc_new _ _))
 .exact(yS _ _ _ qe).c qU
 have:=heap_alloc_new ((w.alloc o1).alloc O) a;simpa using this
def zo1(n m p pv)(i s:Nat)(f v w)(d:[n,m,p][i]?=some pv)(hF:DB w pv f)(hv:f.s[s]?=some v) :
  Ca 174 #[.agg #[n,m,p],.agg #[I6 (i:Int),I6 (s:Int)]] w λe w'=>e=.returned (.agg #[I6 v.u,I6 v.num,.string v.J])/\Bw w w':=by
 have hi3:i<3:=by
  by_cases h:i<3
  .exact h
  rw[Yi qf]at d;cases d
 obtain⟨b,o,rfl,t,x,a,c,q,l⟩:=hF;obtain⟨R,U,rfl,u0,u1,u2⟩:=l s v hv;have z:s<f.s.length:=(ye.1 hv).1;go_enter func174,ntmps174;go_upto_region 1 with fail;refine FX ?_;intro w0 g j k O;have E:At w0 w.heap.size i (.pointer (some ⟨b,o,none⟩)):=by
  rcases i with _|_|_|i
  .simp at d;subst d;simp[World.cell?,j]
  .simp at d;subst d;simp[World.cell?,j]
  .simp at d;subst d;simp[World.cell?,j]
  omega
 have H:At w0 (w.heap.size+1) 0 (I6 (i:Int)):=by simp[World.cell?,k]
 have t2:At w0 (w.heap.size+1) 1 (I6 (s:Int)):=by simp[World.cell?,k]
 have x0:At w0 (w.heap.size+2) 0 (I6 0):=by simp[World.cell?,O]
 have x1:At w0 (w.heap.size+2) 1 (I6 0):=by simp[World.cell?,O]
 have r:At w0 (w.heap.size+2) 2 (.string ⟨#[]⟩):=by simp[World.cell?,O]
 have K:w0.frozen? ⟨w.heap.size+2,0,none⟩=false:=O5;have T:w0.frozen? ⟨w.heap.size+2,1,none⟩=false:=O5;have A:w0.frozen? ⟨w.heap.size+2,2,none⟩=false:=O5;have I:=zab g q;have B:=zab g u0;have v1:=zab g u1;have v2:=zab g u2;have C:(0:Int)<=(i:Int):=qd;have N:(i:Int)<3:=qd;have M:(0:Int)<=(s:Int):=qd;have G:(s:Int)<(f.s.length:Int):=qd;obtain⟨y,D⟩:=Ah g O;have L:w.heap.size+2<w0.heap.size:=Ak O;clear g j k O t x q l u0 u1 u2 hv d;go_wp2_with fail;go_region;go_wp2_with fail;refine bodyPost_ret (v:=.agg #[I6 v.u,I6 v.num,.string v.J]) (by simp[results,results174,go_sem,x0,x1,r]) rfl ⟨rfl,?_⟩;exact(((y.o.setCell qf _).setCell qf _).setCell qf _).drew
structure Jt where
 Y:Nat
 op:Int
 ak:Nat
 N:Nat
def IJ(t:Jt):List Value:=[.int .i64 (t.Y:Int),.int .i64 t.op,.int .i64 (t.ak:Int),.int .i64 (t.N:Int)]
def DS(w:World)(a:Option Addr)(ts:List Jt):Prop:=
 ∀(i:Nat)(t:Jt),ts[i]?=some t->∃b o,a=some ⟨b,o,none⟩/\w.cell? ⟨b,o+i*4,none⟩=some (.int .i64 (t.Y:Int))/\w.cell? ⟨b,o+i*4+1,none⟩=some (.int .i64 t.op)/\w.cell? ⟨b,o+i*4+2,none⟩=some (.int .i64 (t.ak:Int))/\w.cell? ⟨b,o+i*4+3,none⟩=some (.int .i64 (t.N:Int))
def DS.d{w w' a ts}(h:DS w a ts)(c:Bw w w'):DS w' a ts:=by
 intro i t k;obtain⟨b,o,e,O,j,f,g⟩:=h i t k;exact⟨b,o,e,zab c O,zab c j,zab c f,zab c g⟩
def En(w:World)(p0 p1 p2:Value)(T:List F):Prop:=∀(i:Nat)(f:F),T[i]?=some f->∃pv,[p0,p1,p2][i]?=some pv/\DB w pv f
def En.d{w w' b a c T}(h:En w b a c T)(g:Bw w w'):En w' b a c T:=by
 intro i f k;obtain⟨pv,j,e⟩:=h i f k;exact⟨pv,j,e.d g⟩
def Jt.V(t:Jt)(T:List F)(f:F):Prop:=t.Y<f.s.length/\∃g,T[t.ak]?=some g/\t.N<g.s.length
def Ap(T:List F)(f:F)(t:Jt):Bool:=AZ t.op (f.s[t.Y]?.getD (0,0,⟨#[]⟩)) (((T[t.ak]?.map (·.s)).getD [])[t.N]?.getD (0,0,⟨#[]⟩))
def zX{T f g t v u}(c:f.s[t.Y]?=some v)(a:T[t.ak]?=some g)(b:g.s[t.N]?=some u):Ap T f t=AZ t.op v u:=by
 unfold Ap;rw[c,a];simp[b]
def BF{P:World->Prop}{w o1 O}(h:∀wt,Bw w wt->wt.heap[w.heap.size]?=some o1->wt.heap[w.heap.size+1]?=some O->P wt):P ((w.alloc o1).alloc O):=
 h _ (Aj.alloc qe _) ((yS _ _ _ qe).c (heap_alloc_new _ _)) qU
def Ay{w:World}{b ty x0 x1 a c}(h:w.heap[b]?=some (.cells #[x0,x1,a,c] ty (0,0))):At w b 0 x0/\At w b 1 x1/\At w b 2 a/\At w b 3 c:=by
 refine⟨?_,?_,?_,?_⟩<;>simp[World.cell?,h]
def Ao{w:World}{b ty x0 x1 a}(h:w.heap[b]?=some (.cells #[x0,x1,a] ty (0,0))):At w b 0 x0/\At w b 1 x1/\At w b 2 a:=by
 refine⟨?_,?_,?_⟩<;>simp[World.cell?,h]
def gu(h:P:=by
 first
  | (have _:=tP3
     have HN:=Aa (show ts.all (Ap T f)=false by rw[HD.o,hm];rfl))
  |(have HN:=Aa (show ts.all (Ap T f)=(ts.drop (k+1)).all (Ap T f) by rw[HD.o,hm];rfl))
 rw[hm]at HME;clear hm HD;go_wp2_with fail
 go_region_held3 (λw'=>At w' wr.heap.size 0 (I6 (t.Y:Int))/\At w' wr.heap.size 1 (I6 t.op)/\At w' wr.heap.size 2 (I6 (t.ak:Int))/\At w' wr.heap.size 3 (I6 (t.N:Int))/\At w' (w.heap.size+1) 0 p0/\At w' (w.heap.size+1) 1 p1/\At w' (w.heap.size+1) 2 p2/\At w' fb (fo+2) (.slice (some ⟨vb,vo,none⟩) f.s.length fc)/\At w' vb (vo+t.Y*3) (I6 v.u)/\At w' vb (vo+t.Y*3+1) (I6 v.num)/\At w' vb (vo+t.Y*3+2) (.string v.J)/\Bw w0 w'/\w2.heap.size<=w'.heap.size) ((go_split_ands;refine⟨?_,?_,?_,?_,?_,?_,?_,?_,?_,?_,?_,?_,?_⟩<;>first|(simp[*];done)|exact D2.o.drew|exact zab hb' (by assumption)|exact TG (by assumption) (Below.j hb' (by omega))|omega)) (first|(go_at_call 174;refine(HVAL.o _ (by first|exact W2.o.drew|exact W2.o|exact H0.o.c (Below.j (by assumption) H0.o.size))).rtn λw' hb'=>?_;have O:=hb'.size)|(go_at_call 173;refine(HME.o _).rtn λw' hb'=>?_;have O:=hb'.size)|fail)
 rename_i hh;have D9:=Aa hh.2.2.2.2.2.2.2.2.2.2.2.1;clear hh;go_wp2_with fail
 first
  | (have _:=tP3
     go_ret;exact⟨AL HN.o.y,H0.o.thn D9.o⟩)
  | (go_roundw
     case rel=>exact⟨k+1,by go_num,by omega,HN.o,D9.o⟩
     case measure=>(simp;omega))
 ):=h
def MZ(ng ct nd p0 p1 p2 pf ts G tc T f w)(E:DS w G ts)(K:En w p0 p1 p2 T)(L:DB w pf f)(hl:ts.length<=1048576)(b:∀t∈ts,t.V T f) :
  Ca 113 #[.agg #[ng,ct,nd,.slice G ts.length tc],.agg #[p0,p1,p2],pf] w λe w'=>e=.returned (.bool (ts.all (Ap T f)))/\Bw w w':=by
 obtain⟨HJ,HT,HF,aA⟩:=Bn E K L b;clear E K L b;go_enter func113,ntmps113;go_upto_region 1 with fail;refine BF ?_;intro w0 A U z;obtain⟨_,_,_,c3⟩:=Ay U;obtain⟨t0,t1,t2⟩:=Ao z;have H0:=Aa A;have aB:w.heap.size+1<w0.heap.size:=Ak z;clear A U z;go_wp2_with fail
 go_loopw [12] (λiv wr=>∃(k:Nat),iv=I6 (k:Int)/\k<=ts.length/\ts.all (Ap T f)=(ts.drop k).all (Ap T f)/\Bw w0 wr) (mz ts.length)
 case atStart=>exact⟨0,rfl,yk _,rfl,An⟩
 case round=>
  obtain⟨k,rfl,aD,hG,p⟩:=hrel;obtain⟨q,m,af⟩:=AA hG p (H0.o.thn p);have aE:=p.size;clear hG p;by_cases hk:k<ts.length
  .obtain⟨t,n⟩:=Ba hk;obtain⟨jb,jo,rfl,j0,j1,j2,j3⟩:=(HJ.o.d af.o) k t n;obtain⟨x,g,r,M⟩:=aA.o t (yd n);obtain⟨v,hv⟩:∃v,f.s[t.Y]?=some v:=⟨f.s[t.Y],by simp[x]⟩
   obtain⟨u,hu⟩:∃u,g.s[t.N]?=some u:=⟨g.s[t.N],by simp[M]⟩
   obtain⟨pv,ak,ax⟩:=HT.o _ g r;obtain⟨HD,HVAL,HME⟩:=AA (show ts.all (Ap T f)=(AZ t.op v u&&(ts.drop (k+1)).all (Ap T f)) by rw[q.o,CF n,YP,zX hv r hu]) (λw'(h:Bw w w')=>zo1 p0 p1 p2 pv t.ak t.N g u w' ak (ax.d h) hu) (λw'=>VQ v u t.op w');obtain⟨fb,fo,rfl,s0,s1,fa,fc,B,ao⟩:=HF.o;obtain⟨vb,vo,rfl,I,R,W⟩:=ao _ v hv;have H:=zab m.o t0;have r1:=zab m.o t1;have r2:=zab m.o t2;have D:=zab af.o B;have C:=zab af.o I;have v1:=zab af.o R;have v2:=zab af.o W;have z0:(0:Int)<=(k:Int):=qd;have z1:(k:Int)<(ts.length:Int):=qd;have z2:(0:Int)<=(t.Y:Int):=qd;have z3:(t.Y:Int)<(f.s.length:Int):=qd;clear n hv hu ak ax r q s0 s1 B ao I R W M;go_upto_region 4 with fail;refine Be ?_;intro w2 O Z;obtain⟨d0,d1,d2,d3⟩:=Ay Z;have q0:=zab O H;have q1:=zab O r1;have q2:=zab O r2;have e2:=zab O D;have x0:=zab O C;have x1:=zab O v1;have x2:=zab O v2;obtain⟨D2,W2⟩:=Ah (m.o.thn O) (af.o.thn O);have aC:=O.size;clear O Z H r1 r2 D C v1 v2 j0 j1 j2 j3 m af
   cases hm:AZ t.op v u
   .have tP3:=trivial;exact gu
   exact gu
  have az:k=ts.length:=qd;subst az;have HN:=Aa (show ts.all (Ap T f)=true by rw[q.o,yy AH];rfl);have hy:¬(ts.length:Int)<(ts.length:Int):=qd;go_wp2_with fail;go_ret;exact⟨AL HN.o.y,af.o⟩
structure Vr where
 name:ByteArray
 ak:Nat
 Y:Nat
def Hw(v:Vr):List Value:=[.string v.name,.int .i64 (v.ak:Int),.int .i64 (v.Y:Int)]
def IZ(w:World)(a:Option Addr)(vs:List Vr):Prop:=
 ∀(i:Nat)(v:Vr),vs[i]?=some v->∃b o,a=some ⟨b,o,none⟩/\w.cell? ⟨b,o+i*3,none⟩=some (.string v.name)/\w.cell? ⟨b,o+i*3+1,none⟩=some (.int .i64 (v.ak:Int))/\w.cell? ⟨b,o+i*3+2,none⟩=some (.int .i64 (v.Y:Int))
def IZ.d{w w' a vs}(h:IZ w a vs)(c:Bw w w'):IZ w' a vs:=by
 intro i v j;obtain⟨b,o,e,O,g,f⟩:=h i v j;exact⟨b,o,e,zab c O,zab c g,zab c f⟩
def BA:List Vr->ByteArray->Option Vr
 |[],_=>none
 |v::r,s=>if v.name=s then some v else BA r s
def Qw(v r s):BA (v::r) s=if v.name=s then some v else BA r s:=rfl
def Lo:Option Vr->Value
 |some v=>.tuple #[.agg #[.int .i64 (v.ak:Int),.int .i64 (v.Y:Int)],.bool true]
 |none=>.tuple #[.agg #[.int .i64 0,.int .i64 0],.bool false]
def kN(pb s a c vs w)(z:At w pb 1 (.slice a vs.length c))(hv:IZ w a vs)(hl:vs.length<=1048576) :
  Ca 206 #[Pn pb,.string s] w λe w'=>e=.returned (Lo (BA vs s))/\Bw w w':=by
 have H:=Aa hv;have R:=LZ z;clear hv;go_enter func206,ntmps206;go_upto_region 1 with fail;refine Be ?_;intro w0 u r;obtain⟨B,G⟩:=Ah r u;have p:=zab u z;have U:w.heap.size<w0.heap.size:=Ak r;clear u r z;go_wp2_with fail;clear p
 go_loopw [13] (λiv wr=>∃(k:Nat),iv=I6 (k:Int)/\k<=vs.length/\BA vs s=BA (vs.drop k) s/\wr.heap[w.heap.size]?=some (.cells #[I6 0,I6 0] 275 (0,0))/\Bw w wr) (mz vs.length)
 case atStart=>exact⟨0,rfl,yk _,rfl,B.o,G.o⟩
 case round=>
  obtain⟨k,rfl,Y,D,m,A⟩:=hrel;obtain⟨x,f,O⟩:=AA D m A;have E:w.heap.size<wr.heap.size:=Ak m;clear D m A B;by_cases I:k<vs.length
  .obtain⟨v,hv⟩:=Ba I;obtain⟨b,o,rfl,L,M,K⟩:=(H.o.d O.o) k v hv;have l:=Aa (show BA vs s=if v.name=s then some v else BA (vs.drop (k+1)) s by rw[x.o,CF hv,Qw]);have z0:(0:Int)<=(k:Int):=qd;have z1:(k:Int)<(vs.length:Int):=qd;clear hv x;go_upto_region 4 with fail;refine Be ?_;intro i q t;obtain⟨N,d1,W⟩:=Ao t;obtain⟨g,C⟩:=Ah ((q.block _ E).c f.o) (O.o.thn q);have T:wr.heap.size<i.heap.size:=Ak t;clear q t L M K f O
   cases j:(v.name.toList==s.toList)
   .have HN:=Aa (show BA vs s=BA (vs.drop (k+1)) s by rw[EZ]at j;rw[l.o,if_neg (λh=>by subst h;simp at j)]);clear l;go_wp2_with fail;go_roundw
    case rel=>exact⟨k+1,qm,qd,HN.o,g.o,C.o⟩
    case measure=>(simp;omega)
   have HN:=Aa (show BA vs s=some v by rw[EZ]at j;rw[l.o,if_pos (by simpa using j)]);have y:At i w.heap.size 0 (I6 0):=by simp[World.cell?,g.o]
   have n:At i w.heap.size 1 (I6 0):=by simp[World.cell?,g.o]
   have x0:i.frozen? ⟨w.heap.size,0,none⟩=false:=by simp[World.frozen?,g.o]
   have x1:i.frozen? ⟨w.heap.size,1,none⟩=false:=by simp[World.frozen?,g.o]
   clear l;go_wp2_with fail;refine bodyPost_ret (v:=Lo (some v)) (by simp[results,results206,go_sem,y,n,Lo]) rfl ⟨Nr,?_⟩;exact(C.o.setCell qe _).setCell qe _
  have J:k=vs.length:=qd;subst J;have HN:=Aa (show BA vs s=none by rw[x.o,yy AH];rfl);have Z:¬(vs.length:Int)<(vs.length:Int):=qd;have y:At wr w.heap.size 0 (I6 0):=by simp[World.cell?,f.o]
  have n:At wr w.heap.size 1 (I6 0):=by simp[World.cell?,f.o]
  have x0:wr.frozen? ⟨w.heap.size,0,none⟩=false:=by simp[World.frozen?,f.o]
  have x1:wr.frozen? ⟨w.heap.size,1,none⟩=false:=by simp[World.frozen?,f.o]
  go_wp2_with fail;refine bodyPost_ret (v:=Lo none) (by simp[results,results206,go_sem,y,n,Lo]) rfl ⟨Nr,?_⟩;exact(O.o.setCell qe _).setCell qe _
def BJ(t:Tm):Int:=if t.u==3 then t.op else 1
def I1(name:ByteArray)(t:Tm):Bool:=t.u==2&&(t.A.toList==name.toList)
def Gv(name:ByteArray):List Tm->Nat->Option Nat
 |[],_=>none
 |t::r,k=>if I1 name t then some k else Gv name r (k+1)
def Ai(ts:List Tm)(i:Nat)(name:ByteArray):Option Nat:=Gv name (ts.take i) 0
def Rm:Option Nat->Int
 |none=>-1
 |some k=>(k:Int)
def I8:V:=(0,0,⟨#[]⟩)
def EM(ts:List Tm)(i:Nat)(t:Tm):Option Tt:=
 if t.u==0 then none
 else if t.A.toList.isEmpty then some ⟨(i:Int),BJ t, -1,t.val⟩
 else match Ai ts i t.A with
  |none=>none
  |some k=>some ⟨(i:Int),BJ t,(k:Int),I8⟩
def BL(ts:List Tm):Nat->List Tt
 |0=>[]
 |i+1=>BL ts i++(match ts[i]? with|none=>[]|some t=>(EM ts i t).toList)
def C0(p:Pt):Al:=if C_ p then⟨p.z,(p.e.length:Int),BL p.e p.e.length⟩ else⟨⟨#[]⟩,0,[]⟩
def Nd(name t r k):Gv name (t::r) k=if I1 name t then some k else Gv name r (k+1):=rfl
def nD(t w) :
  Ca 208 #[.agg #[I6 t.u,I6 t.op,.string t.A,I6 t.val.u,I6 t.val.num,.string t.val.J]] w λe w'=>e=.returned (I6 (BJ t))/\Bw w w':=by
 by_cases a:t.u=3
 .rw[a];go_enter func208,ntmps208;go_wp2;go_ret;exact⟨by simp[BJ,a],Aj⟩
 go_enter func208,ntmps208;go_wp2;go_ret;exact⟨by simp[BJ,a],Aj⟩
def oZ(h:P:=by
 go_roundw
 case rel=>exact⟨k+1,by omega,by go_num,HX.o,af _,Fk (hb.alloc hb.size _)⟩
 case measure=>(simp;omega)
 ):=h
def kr(p:Pt)(c a){q}(i:Nat)(f w)(O:E_ q w c p.e)(l:p.e[i]?=some f)(hl:p.e.length<=1048576)(au:p.e.length<=a) :
  Ca 207 #[.agg #[.bool p.neg,.string p.z,.slice c p.e.length a],I6 (i:Int)] w λe w'=>e=.returned (I6 (Rm (Ai p.e i f.A)))/\Bw w w':=by
 have ar:i<p.e.length:=(ye.1 l).1;have j:(p.e.take i).length=i:=by simp;omega
 have Y:(0:Int)<=(i:Int):=qd;have Z:(i:Int)<=(a:Int):=qd;have y2:(i:Int)<(p.e.length:Int):=qd;obtain⟨D,oi,x,_,N,B,r,K,I,L⟩:=O.get l;subst x;have C:=Aa r;clear N B r K I L;go_enter func207,ntmps207;go_wp2
 go_loopw [12] (λv wr=>∃(k:Nat),k<=i/\v=I6 k/\Ai p.e i f.A=Gv f.A ((p.e.take i).drop k) k/\At wr w.heap.size 2 (.slice (some ⟨D,oi,none⟩) p.e.length a)/\Bw w wr) (mz i)
 case atStart=>exact⟨0,qd,rfl,rfl,ql,Aj⟩
 case round=>
  obtain⟨k,hk,rfl,s,R,hb⟩:=hrel;have HG:=Aa s;clear s;by_cases G:k<i
  .obtain⟨t,m⟩:∃t,p.e[k]?=some t:=⟨p.e[k]'(by omega),qe⟩
   have M:(p.e.take i)[k]?=some t:=by rw[YC,if_pos G,m]
   have g:Hid ((p.e.take i).drop k=t::(p.e.take i).drop (k+1)):=CF M;obtain⟨b,o,y,U,J,c1,T,c3,c4,c5⟩:=(O.d hb).get m;cases y;have W:(0:Int)<=(k:Int):=qd;have E:(k:Int)<(i:Int):=qd;have af:=λo=>zab (E6 o) R;have aq:=λo=>zab (E6 o) (zab hb C.o);by_cases k2:t.u=2
   .rw[k2]at J;have H:((2:Int)==2)=true:=rfl;cases n:(t.A.toList==f.A.toList)
    all_goals
     go_wp2
     go_quiet (fail)
     go_wp2
    .have HX:Hid (Ai p.e i f.A=Gv f.A ((p.e.take i).drop (k+1)) (k+1)):=show Ai p.e i f.A=_ from by rw[HG.o,g.o,Nd];simp[I1,n]
     exact oZ
    have HX:Hid (Ai p.e i f.A=some k):=show Ai p.e i f.A=_ from by rw[HG.o,g.o,Nd];simp[I1,k2,n]
    go_ret;exact⟨EB (by rw[HX.o];rfl),Fk (hb.alloc hb.size _)⟩
   have HX:Hid (Ai p.e i f.A=Gv f.A ((p.e.take i).drop (k+1)) (k+1)):=show Ai p.e i f.A=_ from by rw[HG.o,g.o,Nd];simp[I1,k2]
   have H:(t.u==2)=false:=QX;go_wp2
   go_quiet (fail)
   go_wp2;exact oZ
  have E:¬(k:Int)<(i:Int):=qd;exact oL
def Cu(vs:List Vr)(ts:List Tm)(i:Nat)(t:Tm):Option Jt:=
 match BA vs t.A with
 |none=>none
 |some v=>(match Ai ts i t.A with|none=>some ⟨i,BJ t,v.ak,v.Y⟩|some _=>none)
def Cw(vs:List Vr)(ts:List Tm):Nat->List Jt
 |0=>[]
 |i+1=>Cw vs ts i++(match ts[i]? with|none=>[]|some t=>(Cu vs ts i t).toList)
def zlg{vs ts i t}(h:ts[i]?=some t):Cw vs ts (i+1)=Cw vs ts i++(Cu vs ts i t).toList:=by simp[Cw,h]
def X0(vs ts):∀i,(Cw vs ts i).length<=i
 |0=>yu _
 |i+1=>by
  have a:=X0 vs ts i
  simp only[Cw,yP]
  cases ts[i]? with
  |none=>simp;omega
  |some t=>
   cases h:Cu vs ts i t<;>simp[h]<;>omega
def ri:(prog.info? 277).map (λi=>(i.zero,i.size,i.bytes))=some (some (.agg #[I6 0,I6 0,I6 0,I6 0]),4,32):=qg
def sC(t):∀u∈IJ t,u.oneCell'=true:=by
 intro u hu;simp[IJ]at hu;rcases hu with rfl|rfl|rfl|rfl<;>rfl
def Nc{w w':World}{c b o}(h:w.grownBy w' c)(a:c≠some b)(hl:b<w.heap.size):w'.cell? ⟨b,o,none⟩=w.cell? ⟨b,o,none⟩:=by
 unfold World.cell?;rw[h.block b hl (λe=>a e.y)]
def F_{w:World}{b ty x0 x1 c d a O}(h:w.heap[b]?=some (.cells #[x0,x1,c,d,a,O] ty (0,0))):At w b 0 x0/\At w b 1 x1/\At w b 2 c/\At w b 3 d/\At w b 4 a/\At w b 5 O:=by
 refine⟨?_,?_,?_,?_,?_,?_⟩<;>simp[World.cell?,h]
def Az{w:World}{b ty x0 x1}(h:w.heap[b]?=some (.cells #[x0,x1] ty (0,0))):At w b 0 x0/\At w b 1 x1:=by
 refine⟨?_,?_⟩<;>simp[World.cell?,h]
def zko(pb)(p:Pt)(aF aC va vc vs){q}(w)(hp:w.cell? ⟨pb,1,none⟩=some (.slice va vs.length vc))(hv:IZ w va vs)(aE:E_ q w aF p.e)(aR:p.e.length<=aC)(hl:p.e.length<=1048576)(aT:vs.length<=1048576) :
  Ca 150 #[.pointer (some ⟨pb,0,none⟩),.agg #[.bool p.neg,.string p.z,.slice aF p.e.length aC]] w λe w'=>(∃a c,e=.returned (.slice a (Cw vs p.e p.e.length).length c)/\w'.ownsRow w.heap.size 277 4 (.slice a (Cw vs p.e p.e.length).length c) (Cw vs p.e p.e.length).length ((Cw vs p.e p.e.length).flatMap IJ))/\Bw w w':=by
 obtain⟨HV,HT,aP⟩:=AA hv aE hp;clear hv aE hp;go_enter func150,ntmps150;go_upto_region 1 with fail;refine Be ?_;intro w0 aB aA;obtain⟨b0,b1,b2⟩:=Ao aA;have H0:=Aa aB;have a9:=aB.size;have aV:w.heap.size<w0.heap.size:=Ak aA;clear aB aA;go_wp2_with fail
 go_loopw [13,5] (λiv tv wr=>∃(k:Nat)(a:Option Addr)(c:Nat),iv=.int .i64 (k:Int)/\k<=p.e.length/\tv=.slice a (Cw vs p.e k).length c/\wr.ownsRow w0.heap.size 277 4 (.slice a (Cw vs p.e k).length c) (Cw vs p.e k).length ((Cw vs p.e k).flatMap IJ)/\Bw w0 wr) (λiv _ _=>p.e.length-(intOf iv).toNat)
 case atStart=>exact⟨0,none,0,rfl,yk _,rfl,yN _ _ _ _,An⟩
 case round=>
  obtain⟨k,a,c,rfl,a0,rfl,ay,T⟩:=hrel;obtain⟨ROW,E,U⟩:=AA ay T (H0.o.thn T);have a6:=T.size;have aW:=X0 vs p.e k;clear ay T;by_cases hk:k<p.e.length
  .obtain⟨t,N⟩:=Ba hk;obtain⟨mb,mo,rfl,_,c0,c1,c2,c3,c4,c5⟩:=(HT.o.d U.o).get N;obtain⟨az,aQ⟩:=Ah (zlg (vs:=vs) N) N;have p0:=zab E.o b0;have p1:=zab E.o b1;have p2:=zab E.o b2;have z0:(0:Int)<=(k:Int):=qd;have z1:(k:Int)<(p.e.length:Int):=qd;clear N;go_upto_region 5 with fail;refine Be ?_;intro w2 n M;obtain⟨b,H⟩:∃b,b=wr.heap.size:=⟨_,rfl⟩
   rw[<-H]at M⊢;obtain⟨d0,d1,d2,d3,d4,d5⟩:=F_ M;obtain⟨R2,I,W⟩:=AA (AF ROW.o n) (E.o.thn n) (U.o.thn n);have s0:=zab n p0;have s1:=zab n p1;have s2:=zab n p2;have aY:=n.size;have a5:b<w2.heap.size:=Ak M;obtain⟨aI,r⟩:=Ah (λg(hg:(Value.slice a (Cw vs p.e k).length c).ownBlock=some g)=>(show g<b by have:=(ROW.o.lt g hg).2;omega)) (kN pb t.A va vc vs w2 (zab W.o aP.o) (HV.o.d W.o) aT);have aU:w0.heap.size<=b:=qd;clear n M c0 c1 c2 c3 c4 c5 p0 p1 p2 ROW E U H;cases s:BA vs t.A with
   |none=>
    have HN:=Aa (show Cw vs p.e (k+1)=Cw vs p.e k by rw[az.o];simp[Cu,s]);rw[s]at r;unfold Lo at r;clear s;go_wp2_with fail;refine r.o.rtn λw3 af=>?_;have D:=Aa af;clear af r;go_upto_region 6 with fail;refine Be ?_;intro w4 O y;obtain⟨C,G⟩:=Ah (AF (AF R2.o D.o) O) ((I.o.thn D.o).c (O.j (I.o.thn D.o).size));clear O y;go_wp2_with fail;go_roundw
    case rel=>exact⟨k+1,a,c,qm,qd,Nr,by rw[HN.o];exact C.o,G.o⟩
    case measure=>(simp[intOf];omega)
   |some v=>
    rw[s]at r;unfold Lo at r;go_wp2_with fail;refine r.o.rtn λw3 af=>?_;obtain⟨D,R3,D3,W3⟩:=Bn af (AF R2.o af) (I.o.thn af) (W.o.thn af);have f0:=zab af d0;have f1:=zab af d1;have f2:=zab af d2;have f3:=zab af d3;have f4:=zab af d4;have f5:=zab af d5;have u0:=zab af s0;have u1:=zab af s1;have u2:=zab af s2;have a4:=af.size;clear af r d0 d1 d2 d3 d4 d5 s0 s1 s2 R2 I W D;go_upto_region 6 with fail;refine Be ?_;intro w4 O y;obtain⟨x,aL⟩:∃x,x=w3.heap.size:=⟨_,rfl⟩
    rw[<-aL]at y⊢;obtain⟨v0,v1⟩:=Az y;obtain⟨C,G,W4⟩:=AA (AF R3.o O) (D3.o.thn O) (W3.o.thn O);have g0:=zab O f0;have g1:=zab O f1;have g2:=zab O f2;have g3:=zab O f3;have g4:=zab O f4;have g5:=zab O f5;have n0:=zab O u0;have n1:=zab O u1;have n2:=zab O u2;have aZ:=O.size;have aX:x<w4.heap.size:=Ak y;have f:=Aa (kr p _ aC k t w4 (HT.o.d W4.o) aQ.o hl aR);have a3:b<x:=qd;clear aL O y f0 f1 f2 f3 f4 f5 u0 u1 u2 R3 D3 W3;cases B:Ai p.e k t.A with
    |some e0=>
     have HN:=Aa (show Cw vs p.e (k+1)=Cw vs p.e k by rw[az.o];simp[Cu,s,B]);rw[B]at f;simp only[Rm]at f;have bd:((e0:Int)==-1)=false:=qe;clear s B;go_wp2_with fail;refine f.o.rtn λR ah=>?_;obtain⟨R5,Z⟩:=Ah (AF C.o ah) (G.o.thn ah);clear ah f;go_wp2_with fail;go_roundw
     case rel=>exact⟨k+1,a,c,qm,qd,Nr,by rw[HN.o];exact R5.o,Z.o⟩
     case measure=>(simp[intOf];omega)
    |none=>
     have HN:=Aa (show Cw vs p.e (k+1)=Cw vs p.e k++[⟨k,BJ t,v.ak,v.Y⟩] by rw[az.o];simp[Cu,s,B]);rw[B]at f;simp only[Rm]at f;clear s B;go_wp2_with fail;refine f.o.rtn λR ah=>?_;obtain⟨R5,Z⟩:=Ah (AF C.o ah) (G.o.thn ah);have x0:=zab ah g0;have x1:=zab ah g1;have x2:=zab ah g2;have x3:=zab ah g3;have x4:=zab ah g4;have x5:=zab ah g5;have y0:=zab ah v0;have y1:=zab ah v1;have a7:=ah.size;have aG:(Value.slice a (Cw vs p.e k).length c).ownBlock≠some b:=λe=>by have:=aI.o _ e;omega
     have aK:(Value.slice a (Cw vs p.e k).length c).ownBlock≠some x:=λe=>by have:=aI.o _ e;omega
     have aS:=Aa (λw'=>nD t w');clear ah f g0 g1 g2 g3 g4 g5 v0 v1 n0 n1 n2 C G W4;go_wp2_with fail;refine wp_region_noPanic ?_;refine wp_region_held_drew (S:=(λw'=>w'.cell? ⟨b,0,none⟩=some (.int .i64 t.u)/\w'.cell? ⟨b,1,none⟩=some (.int .i64 t.op)/\w'.cell? ⟨b,2,none⟩=some (.string t.A)/\w'.cell? ⟨b,3,none⟩=some (.int .i64 t.val.u)/\w'.cell? ⟨b,4,none⟩=some (.int .i64 t.val.num)/\w'.cell? ⟨b,5,none⟩=some (.string t.val.J)/\w'.cell? ⟨x,0,none⟩=some (.int .i64 (v.ak:Int))/\w'.cell? ⟨x,1,none⟩=some (.int .i64 (v.Y:Int)))) qg ?_ (λhHeld=>?_)
     ·(try dsimp only);(go_split_ands;refine⟨?_,?_,?_,?_,?_,?_,?_,?_⟩<;>first|(simp[*];done))
     refine sr 0 3 ?_;refine sr 4 5 ?_;refine r1 3 λK m=>?_;go_simp;(go_at_call 208;refine(aS.o _).j ?_;rintro e' w6 ⟨rfl,aH⟩);(try go_wp2_with fail);refine m.o _ _ (by(try dsimp only);(go_split_ands;refine⟨?_,?_,?_,?_,?_,?_,?_,?_⟩<;>first|exact zab aH qk)) λhQ=>?_;replace hHeld:=hQ;clear m K hQ;(try simp only[pA,pZ,pS,pN]);have B6:=Aa (show Bw R w6 from(yX R.heap.size R).drew.c (aH.j qe));obtain⟨R6,D6⟩:=Ah (AF R5.o B6.o) (Z.o.thn B6.o);have bc:=B6.o.size;have aD:=Aa (λo'=>An.alloc AH o':∀o',Bw w6 (w6.alloc o'));refine sr 5 6 ?_;refine r1 6 λK m=>?_;go_simp;refine m.o _ _ (by(try dsimp only);(go_split_ands;refine⟨?_,?_,?_,?_,?_,?_,?_,?_⟩<;>first|(simp[go_sem, *];done)|exact zab Aj qk)) λhQ=>?_;replace hHeld:=hQ;clear m K hQ;(try simp only[pA,pZ,pS,pN]);refine r1 7 λK m=>?_;(refine Hd qi (.tmp 32) (.tmp 38) 195 qi w0.heap.size 277 _ 4 32 underlying195 ri qi qd _ (Cw vs p.e k).length _ qi (AF R6.o (aD.o _)) (some ⟨_,0,none⟩) 1 1 qi (IJ ⟨k,BJ t,v.ak,v.Y⟩) qi (λe=>qo) (Cv _ _ _ _ qe) (sC _) qj qd qf ?_;intro a8 c8 w8 aJ L aM);refine m.o _ _ (by(try dsimp only);(go_split_ands;refine⟨?_,?_,?_,?_,?_,?_,?_,?_⟩<;>first|exact(Nc L.o aG qf).c qk|exact(Nc L.o aK qf).c qk)) λhQ=>?_;replace hHeld:=hQ;clear m K hQ;(try simp only[pA,pZ,pS,pN]);refine sr 8 9 ?_;refine wpAnyH_done qg ?_ _;refine Ya ?_;obtain⟨R8,D8,aN⟩:=AA (show w8.ownsRow w0.heap.size 277 4 (.slice a8 (Cw vs p.e (k+1)).length c8) (Cw vs p.e (k+1)).length ((Cw vs p.e (k+1)).flatMap IJ) by have:=aJ.o;rw[HN.o];simpa using this) ((D6.o.c ((aD.o _).j D6.o.size)).grown L.o qf (λg hg=>(R6.o.lt g hg).1)) (show(Cw vs p.e (k+1)).length=(Cw vs p.e k).length+1 by rw[HN.o];simp);clear aJ L aM;go_wp2_with fail;go_roundw
     case rel=>exact⟨k+1,a8,c8,qm,qd,by rw[aN.o],R8.o,D8.o⟩
     case measure=>(simp[intOf];omega)
  have aO:k=p.e.length:=qd;subst aO;have hy:¬(p.e.length:Int)<(p.e.length:Int):=qd;go_wp2_with fail;go_ret;exact⟨⟨a,c,rfl,CA ROW.o qd⟩,U.o⟩
def Do(w:World)(pb:Nat)(v0 v1:Value):Prop:=w.heap[pb]?=some (.cells #[v0,v1] 102 (0,0))
def Do.G{w b a v1}(h:Do w b a v1):(At w b 0 a/\At w b 1 v1)/\(∀j,w.frozen? ⟨b,j,none⟩=false)/\b<w.heap.size:=by
 unfold Do at h;exact⟨Az h,λj=>by simp[World.frozen?,h],Ak h⟩
def Do.cK{w b a v1}(h:Do w b a v1)(x):Do (w.setCell ⟨b,1,none⟩ x) b a x:=by
 have:=Co (i:=1) h x;simpa[Do] using this
def Do.C{w w' b a v1}(h:Do w b a v1)(d:Bw w w'):Do w' b a v1:=(d.block b (Ak h)).c h
structure Fp(pb:Nat) (row:Option Nat) (w w':World):Prop where
 rest:Below 0 w w'
 block:∀k,k<w.heap.size->k≠pb->row≠some k->w'.heap[k]?=w.heap[k]?
def Fp.refl(pb row w):Fp pb row w w:=⟨An,λ_ _ _ _=>rfl⟩
def Fp.C{pb row u w w'}(h:Fp pb row u w)(a:Bw w w'):Fp pb row u w':=⟨h.rest.c (a.j (yk _)),λk b e d=>(a.block k (yg b h.rest.size)).c (h.block k b e d)⟩
def uj:(prog.info? 330).map (λi=>(i.zero,i.size,i.bytes))=some (some (.agg #[.string ⟨#[]⟩,I6 0,I6 0]),3,32):=qg
def uY(v):∀u∈Hw v,u.oneCell'=true:=by
 intro u hu;simp[Hw]at hu;rcases hu with rfl|rfl|rfl<;>rfl
def IZ.owns{w base a c vs}(h:w.ownsRow base 330 3 (.slice a vs.length c) vs.length (vs.flatMap Hw)):IZ w a vs:=by
 intro i v b;have key:=λj u(hj:(Hw v)[j]?=some u)=>BM h (FK (cells:=Hw) (m:=3) (λ_=>rfl) vs i v j u b hj);obtain⟨k,rfl,_,O,_⟩:=key 0 _ rfl;obtain⟨g,d,_,h1,_⟩:=key 1 _ rfl;obtain⟨f,e,_,h2,_⟩:=key 2 _ rfl;cases d;cases e;exact⟨k,0,rfl,qZ,qw,qu⟩
def CL(vs:List Vr)(ts:List Tm)(n:Nat):Nat->List Vr
 |0=>vs
 |i+1=>(match ts[i]? with|none=>CL vs ts n i|some t=>if t.u=2/\BA (CL vs ts n i) t.A=none then CL vs ts n i++[⟨t.A,n,i⟩] else CL vs ts n i)
def TB{vs ts n i t}(h:ts[i]?=some t):CL vs ts n (i+1)=if t.u=2/\BA (CL vs ts n i) t.A=none then CL vs ts n i++[⟨t.A,n,i⟩] else CL vs ts n i:=by simp[CL,h]
def Ze(vs ts n):∀i,(CL vs ts n i).length<=vs.length+i
 |0=>yu _
 |i+1=>by
  have a:=Ze vs ts n i
  simp only[CL]
  cases ts[i]? with
  |none=>simp only;omega
  |some t=>
   simp only
   split
   .simp;omega
   omega
def Fp.step{pb row O u wr i b a x}(h:Fp pb row u wr)(w:∀g,O=some g->row=some g∨u.heap.size<=g)(f:Bw wr i)(l:Bw i b)(s:b.grownBy a O):Fp pb row u (a.setCell ⟨pb,1,none⟩ x):=by
 have p:Turned a (a.setCell ⟨pb,1,none⟩ x) pb:=Turned.setCells [x] 1 a pb;refine⟨((((h.rest.c (f.j (yk _))).c (l.j (yk _))).grown s (yk _) (λ_ _=>yk _)).c (p.d (yk _))),λk t q m=>?_⟩;have r:k<wr.heap.size:=yg t h.rest.size;have n:k<i.heap.size:=yg r f.size;have v:k<b.heap.size:=yg n l.size;rw[p.block k q,s.block k v (λe=>by rcases w k e.y with o|o;exact m o;omega),l.block k n,f.block k r];exact h.block k t q m
def ZG(h:P:=by
 rw[ak]at aj;unfold Lo at aj;clear ak am;go_wp2_with fail;refine aj.o.rtn λw3 af=>?_;have D3:=Aa (D2.o.thn af);have f0:=zab af d0;have f2:=zab af d2;have aC:=af.size;clear af aj d0 d1 d2 d3 d4 d5 D2;go_upto_region 5 with fail;refine Be ?_;intro w4 O ao;have D4:=Aa (D3.o.thn O);have g0:=zab O f0;have g2:=zab O f2;have aB:=O.size;clear O ao f0 f2 D3;go_wp2_with fail;go_roundw
 case rel=>exact⟨k+1,ai,ah,U,by go_num,by omega,HN.o,PR.o.C D4.o,AF OR.o D4.o,ay.o.C D4.o,ar.o,by have:=D4.o.size;omega,AR.o.thn D4.o⟩
 case measure=>(simp;omega)
 ):=h
def zex(pb n:Nat)(p:Pt)(aI aZ r m vs T B){q}(I w)(hA:Bw I w)(aG:E_ q I aI p.e)(hP:Do w pb T (.slice r vs.length m))(hO:w.ownsRow B 330 3 (.slice r vs.length m) vs.length (vs.flatMap Hw))(aV:I.heap.size<=B)(aX:I.heap.size<=pb)(hB:B<=w.heap.size)(hl:p.e.length<=1000)(bf:vs.length<=1000) :
  Ca 151 #[.pointer (some ⟨pb,0,none⟩),.agg #[.bool p.neg,.string p.z,.slice aI p.e.length aZ],.int .i64 (n:Int)] w λe w'=>e=.returned (.tuple #[])/\(∃ai ah,Do w' pb T (.slice ai (CL vs p.e n p.e.length).length ah)/\w'.ownsRow B 330 3 (.slice ai (CL vs p.e n p.e.length).length ah) (CL vs p.e n p.e.length).length ((CL vs p.e n p.e.length).flatMap Hw)/\(∀g,(Value.slice ai (CL vs p.e n p.e.length).length ah).ownBlock=some g->(Value.slice r vs.length m).ownBlock=some g∨w.heap.size<=g))/\Fp pb (Value.slice r vs.length m).ownBlock w w'/\Bw I w':=by
 obtain⟨HT,aP,aS,aO⟩:=Bn aG hA hP hO;have aa:=Ak hP;clear aG hA hP hO;go_enter func151,ntmps151;go_upto_region 1 with fail;refine Be ?_;intro w0 E aN;obtain⟨b0,b1,b2⟩:=Ao aN;obtain⟨H0,P0,O0,F0,A0⟩:=DE E (aS.o.C E) (AF aO.o E) ((Fp.refl pb (Value.slice r vs.length m).ownBlock w).C E) (aP.o.thn E);have aY:=E.size;clear E aN aS aO aP;go_wp2_with fail;clear b0 b1 b2
 go_loopw [13] (λiv wr=>∃(k:Nat)(ai:Option Addr)(ah:Nat)(U:List Vr),iv=.int .i64 (k:Int)/\k<=p.e.length/\CL vs p.e n k=U/\Do wr pb T (.slice ai U.length ah)/\wr.ownsRow B 330 3 (.slice ai U.length ah) U.length (U.flatMap Hw)/\Fp pb (Value.slice r vs.length m).ownBlock w wr/\(∀g,(Value.slice ai U.length ah).ownBlock=some g->(Value.slice r vs.length m).ownBlock=some g∨w.heap.size<=g)/\w.heap.size<=wr.heap.size/\Bw I wr) (mz p.e.length)
 case atStart=>exact⟨0,r,m,vs,rfl,yk _,rfl,P0.o,O0.o,F0.o,λg f=>.inl f,aY,A0.o⟩
 case round=>
  obtain⟨k,ai,ah,U,rfl,a5,hU,aE,aM,aR,aH,a9,aK⟩:=hrel;obtain⟨HU,PR,OR,ay,ar,AR⟩:=Jk hU aE aM aR aH aK;have a6:U.length<=2000:=by
   have:=Ze vs p.e n k;rw[hU]at this;omega
  have bd:=Ak aE;clear hU aE aM aR aH aK P0 O0 F0 A0;by_cases hk:k<p.e.length
  .obtain⟨t,ht⟩:=Ba hk;obtain⟨mb,mo,rfl,_,c0,c1,c2,c3,c4,c5⟩:=(HT.o.d AR.o).get ht;have R:=Aa (TB (vs:=vs) (n:=n) ht);rw[HU.o]at R;have z0:(0:Int)<=(k:Int):=qd;have z1:(k:Int)<(p.e.length:Int):=qd;clear ht;go_upto_region 4 with fail;refine Be ?_;intro w2 N W;obtain⟨s,M⟩:∃s,s=wr.heap.size:=⟨_,rfl⟩
   rw[<-M]at W⊢;obtain⟨d0,d1,d2,d3,d4,d5⟩:=F_ W;have D2:=Aa N;have a4:=N.size;have a7:s<w2.heap.size:=Ak W;have a3:pb<s:=qd;have aW:=Aa (λg(f:(Value.slice ai U.length ah).ownBlock=some g)=>(show g<s by have:=(OR.o.lt g f).2;omega));have aQ:(Value.slice ai U.length ah).ownBlock≠some pb:=λe=>by
    obtain⟨cc,aU⟩:=AO OR.o e;exact Cf aU PR.o qh
   have aj:=Aa (kN pb t.A ai ah U w2 (PR.o.C N).G.1.2 (IZ.owns (AF OR.o N)) qd);clear N W c0 c1 c2 c3 c4 c5 M;by_cases am:t.u=2
   .have a0:(t.u==2)=true:=by simpa using am
    cases ak:BA U t.A with
    |some x=>
     have HN:=Aa (show CL vs p.e n (k+1)=U by rw[R.o,if_neg (by rw[ak];simp)]);exact ZG
    |none=>
     have HN:=Aa (show CL vs p.e n (k+1)=U++[⟨t.A,n,k⟩] by rw[R.o,if_pos ⟨am,ak⟩]);rw[ak]at aj;unfold Lo at aj;clear ak am;go_wp2_with fail;refine aj.o.rtn λw3 af=>?_;have D3:=Aa (D2.o.thn af);have f0:=zab af d0;have f2:=zab af d2;have aC:=af.size;clear af aj d0 d1 d2 d3 d4 d5 D2;go_upto_region 5 with fail;refine Be ?_;intro w4 O ao;have D4:=Aa (D3.o.thn O);have g0:=zab O f0;have g2:=zab O f2;have aB:=O.size;clear O ao f0 f2 D3;obtain⟨Y,R4,L,Z⟩:=Bn (PR.o.C D4.o) (AF OR.o D4.o) (λo'=>(yX w4.heap.size w4).drew.alloc qe o':∀o',Bw w4 (w4.drew.alloc o')) (AR.o.thn D4.o);have q1:w4.cell? ⟨pb,1,none⟩=some (.slice ai U.length ah):=Y.o.G.1.2;have q5:∀o,(w4.drew.alloc o).cell? ⟨pb,1,none⟩=some (.slice ai U.length ah):=λo=>(Y.o.C (L.o o)).G.1.2;have aJ:(Value.slice ai U.length ah).ownBlock≠some s:=λe=>by have:=aW.o _ e;omega
     have bc:s≠pb:=qd;have bh:pb<w4.heap.size:=qd;have bg:B<=w4.heap.size:=qd;go_wp2_with fail;refine wp_region_noPanic ?_;refine wp_region_held_drew (S:=(λw'=>w'.cell? ⟨s,2,none⟩=some (.string t.A))) qg ?_ (λhHeld=>?_)
     ·(try dsimp only);(first|(simp[*];done)|assumption)
     refine sr 0 4 ?_;refine sr 5 11 ?_;refine r2 4 11 (λK b=>?_) λK b=>?_
     focus
      go_simp;refine b.o _ _ (by(try dsimp only);(first|(simp[*];done)|assumption)) λhQ=>?_;replace hHeld:=hQ;clear b K hQ;(try simp only[pA,pZ,pS,pN]);refine r1 11 λK b=>?_;go_simp;refine b.o _ _ qT λhQ=>?_
     rotate_left
     focus
      go_simp;refine b.o _ _ qT λhQ=>?_;replace hHeld:=hQ;clear b K hQ;(try simp only[pA,pZ,pS,pN]);refine r1 4 λK b=>?_;go_simp;refine b.o _ _ (by(try dsimp only);(first|assumption)) λhQ=>?_
     rotate_left
     all_goals
      replace hHeld:=hQ;clear b K hQ;(try simp only[pA,pZ,pS,pN]);refine r1 12 λK b=>?_;(refine Hd qi (.tmp 36) (.tmp 43) 100 qi B 330 _ 3 32 underlying100 uj qi qd _ U.length _ qi (AF R4.o (L.o _)) (some ⟨_,0,none⟩) 1 1 qi (Hw ⟨t.A,n,k⟩) qi (λe=>qo) (Cv _ _ _ _ qe) (uY _) qj qd qf ?_;intro D H w8 aL J aF;have P8:=Aa (show Do w8 pb T (.slice ai U.length ah) from(J.o.block pb qf (λe=>aQ e.y)).c (((L.o _).block pb qd).c Y.o));obtain⟨⟨_,m1⟩,zz,_⟩:=P8.o.G;have z1:=zz 1;clear zz);refine b.o _ _ (by(try dsimp only);(first|exact(Nc J.o aJ qf).c qk)) λhQ=>?_;replace hHeld:=hQ;clear b K hQ;(try simp only[pA,pZ,pS,pN]);refine sr 13 15 ?_;refine r1 15 λK b=>?_;go_simp;refine b.o _ _ (by(try dsimp only);(first|(simp[go_sem, *];done))) λhQ=>?_;replace hHeld:=hQ;clear b K hQ;(try simp only[pA,pZ,pS,pN]);refine wpAnyH_done qg ?_ _;refine Ya ?_;obtain⟨R8,P9⟩:=Ah (show w8.ownsRow B 330 3 (.slice D (U.length+1) H) (U.length+1) ((U++[(⟨t.A,n,k⟩:Vr)]).flatMap Hw) by have:=aL.o;simpa using this) (P8.o.cK (.slice D (U.length+1) H));obtain⟨R9,F9,aD,A9⟩:=Bn (Hc (o:=1) (x:=.slice D (U.length+1) H) R8.o P8.o qh) (Fp.step (x:=.slice D (U.length+1) H) ay.o ar.o D4.o (L.o _) J.o) (show∀g,(Value.slice D (U.length+1) H).ownBlock=some g->(Value.slice r vs.length m).ownBlock=some g∨w.heap.size<=g by intro g f;rcases aF.o with h|h;exact ar.o g (by rw[<-h];exact f);right;rw[h]at f;injection f with f;simp at f;omega) ((((Z.o.c ((L.o _).j Z.o.size)).grown J.o (by have:=Z.o.size;simp;omega) (λg f=>yh aV (R4.o.lt g f).1)).setCell (p:=⟨pb,1,none⟩) aX (.slice D (U.length+1) H)));clear aL J aF;go_wp2_with fail;go_roundw
      case rel=>exact⟨k+1,D,H,U++[⟨t.A,n,k⟩],qm,qd,Nr,by simpa using P9.o,by simpa using R9.o,F9.o,by simpa using aD.o,by have:=F9.o.rest.size;omega,A9.o⟩
      case measure=>(simp;omega)
   have a0:(t.u==2)=false:=by simpa using am
   have HN:=Aa (show CL vs p.e n (k+1)=U by rw[R.o,if_neg (λh=>am h.1)]);cases ak:BA U t.A with
   |some x=>
    exact ZG
   |none=>
    exact ZG
  have aT:k=p.e.length:=qd;subst aT;have hy:¬(p.e.length:Int)<(p.e.length:Int):=qd;go_wp2_with fail;go_end0;refine⟨rfl,?_,ay.o,AR.o⟩;rw[HU.o];exact⟨ai,ah,PR.o,OR.o,ar.o⟩
def Im(fn first cap w):(Instr.makeFunc fn first cap).run prog w=.ok (.func fn first cap) w:=rfl
def JG(w:World)(a:Option Addr)(fs:List F):Prop:=∀(i:Nat)(f:F),fs[i]?=some f->∃b o pv,a=some ⟨b,o,none⟩/\w.cell? ⟨b,o+i,none⟩=some pv/\DB w pv f
def JG.d{w w' a fs}(h:JG w a fs)(c:Bw w w'):JG w' a fs:=by
 intro i f k;obtain⟨b,o,pv,e,j,g⟩:=h i f k;exact⟨b,o,pv,e,zab c j,g.d c⟩
structure MI(w:World) (cb tb:Nat) (ng ct nd p0 p1 p2:Value) (ta:Option Addr) (n tc:Nat):Prop where
 c0:w.cell? ⟨cb,0,none⟩=some ng
 c1:w.cell? ⟨cb,1,none⟩=some ct
 c2:w.cell? ⟨cb,2,none⟩=some nd
 c3:w.cell? ⟨cb,3,none⟩=some (.slice ta n tc)
 t0:w.cell? ⟨tb,0,none⟩=some p0
 t1:w.cell? ⟨tb,1,none⟩=some p1
 t2:w.cell? ⟨tb,2,none⟩=some p2
def MI.d{w w' cb c i k l e b g j n f}(h:MI w cb c i k l e b g j n f)(a:Bw w w'):MI w' cb c i k l e b g j n f:=
 ⟨zab a h.c0,zab a h.c1,zab a h.c2,zab a h.c3,zab a h.t0,zab a h.t1,zab a h.t2⟩
def zmG(cb j q l n d c i g ts b k T f w)(v:MI w cb j q l n d c i b ts.length k)(O:DS w b ts)(m:En w d c i T)(r:DB w g f)(hl:ts.length<=1048576)(a:∀t∈ts,t.V T f) :
  Ca 172 #[g,Pn cb,Pn j] w λe w'=>e=.returned (.bool (ts.all (Ap T f)))/\Bw w w':=by
 have p:=Aa (MZ q l n d c i g ts b k T f w O m r hl a);obtain⟨D,A,x,y,B,C,t2⟩:=v;clear O m r a;go_enter func172,ntmps172;go_wp2_with fail;refine p.o.rtn λz s=>?_;have u:=Aa s;clear p s;go_wp2_with fail;go_ret;exact⟨rfl,u.o⟩
def zka(cb s x v E l r m ts p A T fs fa fc w)(C:MI w cb s x v E l r m p ts.length A)(H:DS w p ts)(D:En w l r m T)(z:JG w fa fs)(hl:ts.length<=1048576)(ar:fs.length<=1048576)(a:∀f∈fs,∀t∈ts,t.V T f) :
  Ca 237 #[.slice fa fs.length fc,.func (.func 172) #[] #[.pointer (some ⟨cb,0,none⟩),.pointer (some ⟨s,0,none⟩)]] w λe w'=>(∃n:Int,e=.returned (.int .i64 n)/\decide (0<=n)=fs.any (λf=>ts.all (Ap T f)))/\Bw w w':=by
 obtain⟨J,M,I,L,N⟩:=DE C H D z a;clear C H D z a;go_enter func237,ntmps237;go_wp2_with fail
 go_loopw [8] (λiv wr=>∃(k:Nat),iv=.int .i64 (k:Int)/\k<=fs.length/\fs.any (λf=>ts.all (Ap T f))=(fs.drop k).any (λf=>ts.all (Ap T f))/\Bw w wr) (mz fs.length)
 case atStart=>exact⟨0,rfl,yk _,rfl,An⟩
 case round=>
  obtain⟨k,rfl,aq,G,B⟩:=hrel;obtain⟨q,O⟩:=Ah G B;clear G B;by_cases R:k<fs.length
  .obtain⟨f,i⟩:=Ba R;obtain⟨Z,fo,pv,rfl,y0,y⟩:=(L.o.d O.o) k f i;obtain⟨j,c⟩:=Ah (show fs.any (λf=>ts.all (Ap T f))=(ts.all (Ap T f)||(fs.drop (k+1)).any (λf=>ts.all (Ap T f))) by rw[q.o,CF i,Kr]) (zmG cb s x v E l r m pv ts p A T f wr (J.o.d O.o) (M.o.d O.o) (I.o.d O.o) y hl (N.o f (yd i)));have K:(0:Int)<=(k:Int):=qd;have z1:(k:Int)<(fs.length:Int):=qd;clear i y q;cases b:ts.all (Ap T f)
   .have HN:=Aa (show fs.any (λf=>ts.all (Ap T f))=(fs.drop (k+1)).any (λf=>ts.all (Ap T f)) by rw[j.o,b];rfl);rw[b]at c;clear b j;go_wp2_with fail;refine c.o.rtn λU g=>?_;have u:=Aa (O.o.thn g);clear g c;go_wp2_with fail;go_roundw
    case rel=>exact⟨k+1,qm,qd,HN.o,u.o⟩
    case measure=>(simp;omega)
   have HN:=Aa (show fs.any (λf=>ts.all (Ap T f))=true by rw[j.o,b];rfl);rw[b]at c;clear b j;go_wp2_with fail;refine c.o.rtn λU g=>?_;have u:=Aa (O.o.thn g);clear g c;go_wp2_with fail;go_ret;exact⟨⟨k,rfl,by rw[HN.o];exact decide_eq_true K⟩,u.o⟩
  have W:k=fs.length:=qd;subst W;have HN:=Aa (show fs.any (λf=>ts.all (Ap T f))=false by rw[q.o,yy AH];rfl);have Y:¬(fs.length:Int)<(fs.length:Int):=qd;go_wp2_with fail;go_ret;exact⟨⟨-1,rfl,OV⟩,O.o⟩
def zgE(cb b u p r g d i ts c l T fs fa fc w)(s:MI w cb b u p r g d i c ts.length l)(O:DS w c ts)(q:En w g d i T)(v:JG w fa fs)(hl:ts.length<=1048576)(y:fs.length<=1048576)(a:∀f∈fs,∀t∈ts,t.V T f) :
  Ca 171 #[.slice fa fs.length fc,.func (.func 172) #[] #[Pn cb,Pn b]] w λe w'=>e=.returned (.bool (fs.any (λf=>ts.all (Ap T f))))/\Bw w w':=by
 have m:=Aa (zka cb b u p r g d i ts c l T fs fa fc w s O q v hl y a);clear s O q v a;go_enter func171,ntmps171;go_wp2_with fail;refine m.o.j ?_;rintro e B ⟨⟨n,rfl,k⟩,x⟩;obtain⟨z,A⟩:=Ah x k;clear m x k;go_wp2_with fail;go_ret;exact⟨AL A.o,z.o⟩
def zoQ(k j b i c nb ts g l T fs fa fc w)(n:At w nb 4 (.slice fa fs.length fc))(s:DS w g ts)(m:En w b i c T)(q:JG w fa fs)(hl:ts.length<=1048576)(D:fs.length<=1048576)(a:∀f∈fs,∀t∈ts,t.V T f) :
  Ca 111 #[.agg #[k,j,Pn nb,.slice g ts.length l],.agg #[b,i,c]] w λe w'=>e=.returned (.bool (fs.any (λf=>ts.all (Ap T f))))/\Bw w w':=by
 obtain⟨E,z,C,G⟩:=Bn s m q a;have N:=Im;clear s m q a;go_enter func111,ntmps111;go_upto_region 1 with fail;refine BF ?_;intro w0 O u r;obtain⟨J,H,x,K⟩:=Ay u;obtain⟨y,B,t2⟩:=Ao r;obtain⟨A,I⟩:=Ah (show MI w0 w.heap.size (w.heap.size+1) k j (Pn nb) b i c g ts.length l from⟨J,H,x,K,y,B,t2⟩) O;have M:=zab O n;have p:=Aa (zgE w.heap.size (w.heap.size+1) k j (Pn nb) b i c ts g l T fs fa fc w0 A.o (E.o.d O) (z.o.d O) (C.o.d O) hl D G.o);clear O u r n;go_wp2_with fail;refine p.o.rtn λR v=>?_;have L:=Aa (I.o.thn v);clear p v;go_wp2_with fail;go_ret;exact⟨rfl,L.o⟩
def Lz(i:Int)(n:Nat):Bool:=decide (0<=i)&&decide (i<(n:Int))
def GE(vs:List V)(i:Int):Option V:=if 0<=i then vs[i.toNat]? else none
def EL(t:Tt)(vs:List V):Bool:=
 match GE vs t.Y with
 |none=>false
 |some v=>if t.other = -1 then AZ t.op v t.val else match GE vs t.other with
  |none=>false
  |some o=>AZ t.op v o
def Ae(a:Al)(f:F):Bool:=decide (f.z.toList=a.z.toList)&&(decide ((f.s.length:Int)=a.aa)&&a.x.all (λt=>EL t f.s))
def jq{vs i}(h:Lz i vs.length=false):GE vs i=none:=by simp_all[V,Lz,GE]
def iS{vs i}(h:Lz i vs.length=true):∃(s:Nat)(v:V),i=(s:Int)/\s<vs.length/\vs[s]?=some v/\GE vs i=some v:=by
 simp only[Lz,yi,decide_eq_true_eq]at h;obtain⟨s,rfl⟩:=Yf h.1;have a:s<vs.length:=qd;refine⟨s,vs[s],rfl,a,qe,?_⟩;unfold GE;rw[if_pos h.1];simp
def iO(f:F)(a c i w) :
  Ca 276 #[.agg #[I6 f.tag,.string f.z,.slice a f.s.length c],I6 i] w λe w'=>
   e=.returned (.bool (Lz i f.s.length))/\Bw w w':=by
 by_cases O:0<=i
 .go_enter func276,ntmps276;go_wp2;go_ret;exact⟨AL (by simp[Lz,O]),Aj⟩
 go_enter func276,ntmps276;go_wp2;go_ret;exact⟨AL (by simp[Lz];omega),Aj⟩
def pT(h:P:=by go_wp2;go_ret;exact⟨AL HN.o.y,((B2 _ _).c (O.j (by simp;omega))).drew.c (hb'.j (by have:=(B2 default default).size;have:=O.size;simp at *;omega))⟩):=h
def ws(t)(f:F)(a c w)(hv:Bt w a f.s) :
  Ca 253 #[.agg #[.int .i64 t.Y,.int .i64 t.op,.int .i64 t.other,.int .i64 t.val.u,.int .i64 t.val.num,.string t.val.J],.agg #[.int .i64 f.tag,.string f.z,.slice a f.s.length c]] w λe w'=>
   e=.returned (.bool (EL t f.s))/\Below w.heap.size w w':=by
 have B2:∀o o1,Below w.heap.size w ((w.alloc o).alloc o1):=λo o1=>((yX _ _).alloc (yu _) _).alloc qe _;have af:=Aa (λw'=>iO f a c t.Y w');cases p:Lz t.Y f.s.length
 .rw[p]at af;have HN:Hid (EL t f.s=false):=show EL t f.s=false from by simp[EL,jq p]
  go_enter func253,ntmps253;go_wp2_with (go_at_call 276;refine(af.o _).rtn λd O=>?_);go_ret;exact⟨AL HN.o.y,(B2 _ _).c (O.j qf)⟩
 rw[p]at af;obtain⟨s,v,es,n,E,x⟩:=iS p;obtain⟨b,o,rfl,B,A,q⟩:=hv s v E;have z0:(0:Int)<=(s:Int):=qd;have z1:(s:Int)<(f.s.length:Int):=qd;by_cases m:t.other = -1
 .have HN:Hid (EL t f.s=AZ t.op v t.val):=show EL t f.s=_ from by simp[EL,x,m]
  have G:=Aa (λw'=>VQ v t.val t.op w');rw[es,m];rw[es]at af;clear es x E hv;go_enter func253,ntmps253;go_wp2_with (go_at_call 276;refine(af.o _).rtn λd O=>?_;have M:d.cell? ⟨w.heap.size,0,none⟩=some (.int .i64 (s:Int)):=zab O ql;have p1:d.cell? ⟨w.heap.size,1,none⟩=some (.int .i64 t.op):=zab O ql;have N:d.cell? ⟨w.heap.size,2,none⟩=some (.int .i64 (-1)):=zab O ql;have p3:d.cell? ⟨w.heap.size,3,none⟩=some (.int .i64 t.val.u):=zab O ql;have p4:d.cell? ⟨w.heap.size,4,none⟩=some (.int .i64 t.val.num):=zab O ql;have p5:d.cell? ⟨w.heap.size,5,none⟩=some (.string t.val.J):=zab O ql;have W:d.cell? ⟨w.heap.size+1,0,none⟩=some (.int .i64 f.tag):=zab O ql;have L:d.cell? ⟨w.heap.size+1,1,none⟩=some (.string f.z):=zab O ql;have T:d.cell? ⟨w.heap.size+1,2,none⟩=some (.slice (some ⟨b,o,none⟩) f.s.length c):=zab O ql;have x0:=zab O (zab (B2 _ _) B);have x1:=zab O (zab (B2 _ _) A);have x2:=zab O (zab (B2 _ _) q));clear B A q m p n af
  first
  |(go_region_held3 (λw'=>w'.cell? ⟨w.heap.size,0,none⟩=some (.int .i64 (s:Int))/\w'.cell? ⟨w.heap.size,1,none⟩=some (.int .i64 t.op)/\w'.cell? ⟨w.heap.size,2,none⟩=some (.int .i64 (-1))/\w'.cell? ⟨w.heap.size,3,none⟩=some (.int .i64 t.val.u)/\w'.cell? ⟨w.heap.size,4,none⟩=some (.int .i64 t.val.num)/\w'.cell? ⟨w.heap.size,5,none⟩=some (.string t.val.J)/\w'.cell? ⟨w.heap.size+1,0,none⟩=some (.int .i64 f.tag)/\w'.cell? ⟨w.heap.size+1,1,none⟩=some (.string f.z)/\w'.cell? ⟨w.heap.size+1,2,none⟩=some (.slice (some ⟨b,o,none⟩) f.s.length c)/\w'.cell? ⟨b,o+s*3,none⟩=some (.int .i64 v.u)/\w'.cell? ⟨b,o+s*3+1,none⟩=some (.int .i64 v.num)/\w'.cell? ⟨b,o+s*3+2,none⟩=some (.string v.J)) ((go_split_ands;refine⟨?_,?_,?_,?_,?_,?_,?_,?_,?_,?_,?_,?_⟩<;>first|(simp[*];done)|exact zab hb' qk)) (first|(go_at_call 173;refine(G.o _).rtn λw' hb'=>?_)|fail))
  |fail
  exact pT
 have g:=Aa (λw'=>iO f (some ⟨b,o,none⟩) c t.other w');cases C:Lz t.other f.s.length
 .rw[C]at g;have HN:Hid (EL t f.s=false):=show EL t f.s=_ from by simp[EL,x,m,jq C]
  rw[es];rw[es]at af;clear es x E hv;go_enter func253,ntmps253;go_wp2_with (go_at_call 276;refine(af.o _).rtn λd O=>?_;have M:d.cell? ⟨w.heap.size,0,none⟩=some (.int .i64 (s:Int)):=zab O ql;have p1:d.cell? ⟨w.heap.size,1,none⟩=some (.int .i64 t.op):=zab O ql;have N:d.cell? ⟨w.heap.size,2,none⟩=some (.int .i64 t.other):=zab O ql;have p3:d.cell? ⟨w.heap.size,3,none⟩=some (.int .i64 t.val.u):=zab O ql;have p4:d.cell? ⟨w.heap.size,4,none⟩=some (.int .i64 t.val.num):=zab O ql;have p5:d.cell? ⟨w.heap.size,5,none⟩=some (.string t.val.J):=zab O ql;have W:d.cell? ⟨w.heap.size+1,0,none⟩=some (.int .i64 f.tag):=zab O ql;have L:d.cell? ⟨w.heap.size+1,1,none⟩=some (.string f.z):=zab O ql;have T:d.cell? ⟨w.heap.size+1,2,none⟩=some (.slice (some ⟨b,o,none⟩) f.s.length c):=zab O ql;have x0:=zab O (zab (B2 _ _) B);have x1:=zab O (zab (B2 _ _) A);have x2:=zab O (zab (B2 _ _) q));clear B A q m p C n af;refine wp_region_noPanic ?_;refine wp_region_held_drew (S:=(λw'=>w'.cell? ⟨w.heap.size,0,none⟩=some (.int .i64 (s:Int))/\w'.cell? ⟨w.heap.size,1,none⟩=some (.int .i64 t.op)/\w'.cell? ⟨w.heap.size,2,none⟩=some (.int .i64 t.other)/\w'.cell? ⟨w.heap.size,3,none⟩=some (.int .i64 t.val.u)/\w'.cell? ⟨w.heap.size,4,none⟩=some (.int .i64 t.val.num)/\w'.cell? ⟨w.heap.size,5,none⟩=some (.string t.val.J)/\w'.cell? ⟨w.heap.size+1,0,none⟩=some (.int .i64 f.tag)/\w'.cell? ⟨w.heap.size+1,1,none⟩=some (.string f.z)/\w'.cell? ⟨w.heap.size+1,2,none⟩=some (.slice (some ⟨b,o,none⟩) f.s.length c)/\w'.cell? ⟨b,o+s*3,none⟩=some (.int .i64 v.u)/\w'.cell? ⟨b,o+s*3+1,none⟩=some (.int .i64 v.num)/\w'.cell? ⟨b,o+s*3+2,none⟩=some (.string v.J))) qg ?_ (λhHeld=>?_)
  ·(try dsimp only);(go_split_ands;refine⟨?_,?_,?_,?_,?_,?_,?_,?_,?_,?_,?_,?_⟩<;>first|(simp[*];done)|exact zab hb' qk)
  refine wpAnyH_take (i:=0) (oi:=?oi1) (v:=?v1) ?hi1 qg qg qg (λ_ _ _ h=>h) (Or.inl ⟨?wd1,?hy1⟩) hHeld ?rest1
  case hi1=>(simp only[ym,yv];rfl)
  case wd1=>rfl
  case hy1=>(intro w k;(try dsimp only at k);go_simp;try with_reducible rfl)
  (try simp only[Act.put,yo,yB,yC]);refine wpAnyH_take (i:=1) (oi:=?oi2) (v:=?v2) ?hi2 qg qg qg (λ_ _ _ h=>h) (Or.inl ⟨?wd2,?hy2⟩) hHeld ?rest2
  case hi2=>(simp only[ym,yw,yv];rfl)
  case wd2=>rfl
  case hy2=>(intro w k;(try dsimp only at k);go_simp;try with_reducible rfl)
  (try simp only[Act.put,yo,yB,yC]);refine wpAnyH_take (i:=2) (oi:=?oi3) (v:=?v3) ?hi3 qg qg qg (λ_ _ _ h=>h) (Or.inl ⟨?wd3,?hy3⟩) hHeld ?rest3
  case hi3=>(simp only[ym,yw,yv];rfl)
  case wd3=>rfl
  case hy3=>(intro w k;(try dsimp only at k);go_simp;try with_reducible rfl)
  (try simp only[Act.put,yo,yB,yC]);refine r1 3 λK hK=>?_;go_simp;(go_at_call 276;refine(g.o _).rtn λw' hb'=>?_);(try go_wp2_with fail);refine hK.o _ _ (by(try dsimp only);(go_split_ands;refine⟨?_,?_,?_,?_,?_,?_,?_,?_,?_,?_,?_,?_⟩<;>first|(simp[*];done)|exact zab hb' qk)) λU=>?_;replace hHeld:=U;clear hK K U;(try simp only[Act.put,yo,yB,yC]);refine wpAnyH_take (i:=4) (oi:=?oi5) (v:=?v5) ?hi5 qg qg qg (λ_ _ _ h=>h) (Or.inl ⟨?wd5,?hy5⟩) hHeld ?rest5
  case hi5=>(simp only[ym,yw,yv];rfl)
  case wd5=>rfl
  case hy5=>(intro w k;(try dsimp only at k);go_simp;try with_reducible rfl)
  (try simp only[Act.put,yo,yB,yC]);refine wpAnyH_take (i:=5) (oi:=?oi6) (v:=undef) ?hi6 qg qg qg (λ_ _ _ h=>h) (Or.inr ⟨?wd6,rfl⟩) hHeld ?rest6
  case hi6=>(simp only[ym,yw,yv];rfl)
  case wd6=>rfl
  (try simp only[Act.put,yo,yB,yC]);refine wpAnyH_take (i:=6) (oi:=?oi7) (v:=undef) ?hi7 qg qg qg (λ_ _ _ h=>h) (Or.inr ⟨?wd7,rfl⟩) hHeld ?rest7
  case hi7=>(simp only[ym,yw,yv];rfl)
  case wd7=>rfl
  (try simp only[Act.put,yo,yB,yC]);refine wpAnyH_take (i:=7) (oi:=?oi8) (v:=undef) ?hi8 qg qg qg (λ_ _ _ h=>h) (Or.inr ⟨?wd8,rfl⟩) hHeld ?rest8
  case hi8=>(simp only[ym,yw,yv];rfl)
  case wd8=>rfl
  (try simp only[Act.put,yo,yB,yC]);refine wpAnyH_take (i:=8) (oi:=?oi9) (v:=undef) ?hi9 qg qg qg (λ_ _ _ h=>h) (Or.inr ⟨?wd9,rfl⟩) hHeld ?rest9
  case hi9=>(simp only[ym,yw,yv];rfl)
  case wd9=>rfl
  (try simp only[Act.put,yo,yB,yC]);refine wpAnyH_take (i:=9) (oi:=?oi10) (v:=undef) ?hi10 qg qg qg (λ_ _ _ h=>h) (Or.inr ⟨?wd10,rfl⟩) hHeld ?rest10
  case hi10=>(simp only[ym,yw,yv];rfl)
  case wd10=>rfl
  (try simp only[Act.put,yo,yB,yC]);refine wpAnyH_take (i:=10) (oi:=?oi11) (v:=undef) ?hi11 qg qg qg (λ_ _ _ h=>h) (Or.inr ⟨?wd11,rfl⟩) hHeld ?rest11
  case hi11=>(simp only[ym,yw,yv];rfl)
  case wd11=>rfl
  (try simp only[Act.put,yo,yB,yC]);refine wpAnyH_take (i:=11) (oi:=?oi12) (v:=undef) ?hi12 qg qg qg (λ_ _ _ h=>h) (Or.inr ⟨?wd12,rfl⟩) hHeld ?rest12
  case hi12=>(simp only[ym,yw,yv];rfl)
  case wd12=>rfl
  (try simp only[Act.put,yo,yB,yC]);refine wpAnyH_take (i:=12) (oi:=?oi13) (v:=undef) ?hi13 qg qg qg (λ_ _ _ h=>h) (Or.inr ⟨?wd13,rfl⟩) hHeld ?rest13
  case hi13=>(simp only[ym,yw,yv];rfl)
  case wd13=>rfl
  (try simp only[Act.put,yo,yB,yC]);refine wpAnyH_take (i:=13) (oi:=?oi14) (v:=undef) ?hi14 qg qg qg (λ_ _ _ h=>h) (Or.inr ⟨?wd14,rfl⟩) hHeld ?rest14
  case hi14=>(simp only[ym,yw,yv];rfl)
  case wd14=>rfl
  (try simp only[Act.put,yo,yB,yC]);refine wpAnyH_take (i:=14) (oi:=?oi15) (v:=undef) ?hi15 qg qg qg (λ_ _ _ h=>h) (Or.inr ⟨?wd15,rfl⟩) hHeld ?rest15
  case hi15=>(simp only[ym,yw,yv];rfl)
  case wd15=>rfl
  (try simp only[Act.put,yo,yB,yC]);refine wpAnyH_take (i:=15) (oi:=?oi16) (v:=undef) ?hi16 qg qg qg (λ_ _ _ h=>h) (Or.inr ⟨?wd16,rfl⟩) hHeld ?rest16
  case hi16=>(simp only[ym,yw,yv];rfl)
  case wd16=>rfl
  (try simp only[Act.put,yo,yB,yC]);refine wpAnyH_take (i:=16) (oi:=?oi17) (v:=undef) ?hi17 qg qg qg (λ_ _ _ h=>h) (Or.inr ⟨?wd17,rfl⟩) hHeld ?rest17
  case hi17=>(simp only[ym,yw,yv];rfl)
  case wd17=>rfl
  (try simp only[Act.put,yo,yB,yC]);refine wpAnyH_take (i:=17) (oi:=?oi18) (v:=undef) ?hi18 qg qg qg (λ_ _ _ h=>h) (Or.inr ⟨?wd18,rfl⟩) hHeld ?rest18
  case hi18=>(simp only[ym,yw,yv];rfl)
  case wd18=>rfl
  (try simp only[Act.put,yo,yB,yC]);refine wpAnyH_take (i:=18) (oi:=?oi19) (v:=undef) ?hi19 qg qg qg (λ_ _ _ h=>h) (Or.inr ⟨?wd19,rfl⟩) hHeld ?rest19
  case hi19=>(simp only[ym,yw,yv];rfl)
  case wd19=>rfl
  (try simp only[Act.put,yo,yB,yC]);refine wpAnyH_take (i:=19) (oi:=?oi20) (v:=undef) ?hi20 qg qg qg (λ_ _ _ h=>h) (Or.inr ⟨?wd20,rfl⟩) hHeld ?rest20
  case hi20=>(simp only[ym,yw,yv];rfl)
  case wd20=>rfl
  (try simp only[Act.put,yo,yB,yC]);refine wpAnyH_take (i:=20) (oi:=?oi21) (v:=?v21) ?hi21 qg qg qg (λ_ _ _ h=>h) (Or.inl ⟨?wd21,?hy21⟩) hHeld ?rest21
  case hi21=>(simp only[ym,yw,yv];rfl)
  case wd21=>rfl
  case hy21=>(intro w k;(try dsimp only at k);go_simp;try with_reducible rfl)
  (try simp only[Act.put,yo,yB,yC]);refine wpAnyH_take (i:=21) (oi:=?oi22) (v:=?v22) ?hi22 qg qg qg (λ_ _ _ h=>h) (Or.inl ⟨?wd22,?hy22⟩) hHeld ?rest22
  case hi22=>(simp only[ym,yw,yv];rfl)
  case wd22=>rfl
  case hy22=>(intro w k;(try dsimp only at k);go_simp;try with_reducible rfl)
  (try simp only[Act.put,yo,yB,yC]);refine wpAnyH_done qg ?_ _;refine Ya ?_;exact pT
 rw[C]at g;obtain⟨r,u,H,aq,Z,ao⟩:=iS C;obtain⟨b2,o2,e2,g0,I,R⟩:=hv r u Z;cases e2;have HN:Hid (EL t f.s=AZ t.op v u):=show EL t f.s=_ from by simp[EL,x,m,ao]
 have G:=Aa (λw'=>VQ v u t.op w');have y0:(0:Int)<=(r:Int):=qd;have y1:(r:Int)<(f.s.length:Int):=qd;have y2:((r:Int)==-1)=false:=qe;rw[H]at g;rw[es,H];rw[es]at af;clear es x E hv H ao Z m;go_enter func253,ntmps253;go_wp2_with (go_at_call 276;refine(af.o _).rtn λd O=>?_;have M:d.cell? ⟨w.heap.size,0,none⟩=some (.int .i64 (s:Int)):=zab O ql;have p1:d.cell? ⟨w.heap.size,1,none⟩=some (.int .i64 t.op):=zab O ql;have N:d.cell? ⟨w.heap.size,2,none⟩=some (.int .i64 (r:Int)):=zab O ql;have p3:d.cell? ⟨w.heap.size,3,none⟩=some (.int .i64 t.val.u):=zab O ql;have p4:d.cell? ⟨w.heap.size,4,none⟩=some (.int .i64 t.val.num):=zab O ql;have p5:d.cell? ⟨w.heap.size,5,none⟩=some (.string t.val.J):=zab O ql;have W:d.cell? ⟨w.heap.size+1,0,none⟩=some (.int .i64 f.tag):=zab O ql;have L:d.cell? ⟨w.heap.size+1,1,none⟩=some (.string f.z):=zab O ql;have T:d.cell? ⟨w.heap.size+1,2,none⟩=some (.slice (some ⟨b,o,none⟩) f.s.length c):=zab O ql;have x0:=zab O (zab (B2 _ _) B);have x1:=zab O (zab (B2 _ _) A);have x2:=zab O (zab (B2 _ _) q);have v0:=zab O (zab (B2 _ _) g0);have v1:=zab O (zab (B2 _ _) I);have v2:=zab O (zab (B2 _ _) R));clear B A q g0 I R p C n aq af y2
 first
 |(go_region_held3 (λw'=>w'.cell? ⟨w.heap.size,0,none⟩=some (.int .i64 (s:Int))/\w'.cell? ⟨w.heap.size,1,none⟩=some (.int .i64 t.op)/\w'.cell? ⟨w.heap.size,2,none⟩=some (.int .i64 (r:Int))/\w'.cell? ⟨w.heap.size,3,none⟩=some (.int .i64 t.val.u)/\w'.cell? ⟨w.heap.size,4,none⟩=some (.int .i64 t.val.num)/\w'.cell? ⟨w.heap.size,5,none⟩=some (.string t.val.J)/\w'.cell? ⟨w.heap.size+1,0,none⟩=some (.int .i64 f.tag)/\w'.cell? ⟨w.heap.size+1,1,none⟩=some (.string f.z)/\w'.cell? ⟨w.heap.size+1,2,none⟩=some (.slice (some ⟨b,o,none⟩) f.s.length c)/\w'.cell? ⟨b,o+s*3,none⟩=some (.int .i64 v.u)/\w'.cell? ⟨b,o+s*3+1,none⟩=some (.int .i64 v.num)/\w'.cell? ⟨b,o+s*3+2,none⟩=some (.string v.J)/\w'.cell? ⟨b,o+r*3,none⟩=some (.int .i64 u.u)/\w'.cell? ⟨b,o+r*3+1,none⟩=some (.int .i64 u.num)/\w'.cell? ⟨b,o+r*3+2,none⟩=some (.string u.J)) ((go_split_ands;refine⟨?_,?_,?_,?_,?_,?_,?_,?_,?_,?_,?_,?_,?_,?_,?_⟩<;>first|(simp[*];done)|exact zab hb' qk)) (first|(go_at_call 276;refine(g.o _).rtn λw' hb'=>?_)|(go_at_call 173;refine(G.o _).rtn λar ak=>?_;have D:=hb';have hb':=ak)|fail))
 |fail
 go_wp2;go_ret;exact⟨AL HN.o.y,(((B2 _ _).c (O.j qf)).drew.c (D.j (by have:=(B2 default default).size;have:=O.size;simp at *;omega))).c (ak.j (by have:=(B2 default default).size;have:=O.size;have:=D.size;simp at *;omega))⟩
end
def zo0{x f}(h:¬f.z.toList=x.z.toList):Ae x f=false:=by simp[Ae,h]
def zo7{x f}(h:¬(f.s.length:Int)=x.aa):Ae x f=false:=by simp[Ae,h]
def zol{x f}(h:f.z.toList=x.z.toList)(O:(f.s.length:Int)=x.aa):Ae x f=x.x.all (λt=>EL t f.s):=by simp[Ae,h,O]
def RT(w:World)(b:Nat)(f:F)(a:Option Addr)(c:Nat):Prop:=w.cell? ⟨b,0,none⟩=some (.int .i64 f.tag)/\w.cell? ⟨b,1,none⟩=some (.string f.z)/\w.cell? ⟨b,2,none⟩=some (.slice a f.s.length c)
def RT.d{w w' b f a c}(h:RT w b f a c)(e:Bw w w'):RT w' b f a c:=⟨zab e h.1,zab e h.2.1,zab e h.2.2⟩
def xW(x a_tests c_tests f a c){q}(w)(D:E9 q w a_tests x.x)(hv:Bt w a f.s)(hl:x.x.length<=1048576) :
  Ca 209 #[.agg #[.string x.z,.int .i64 x.aa,.slice a_tests x.x.length c_tests],.agg #[.int .i64 f.tag,.string f.z,.slice a f.s.length c]] w λe w'=>
   e=.returned (.bool (Ae x f))/\Bw w w':=by
 by_cases n:f.z.toList=x.z.toList
 .by_cases g:(f.s.length:Int)=x.aa
  .have G:Hid (Ae x f=x.x.all (λt=>EL t f.s)):=zol n g;have v:((f.s.length:Int) != x.aa)=false:=by simp[g]
   go_enter func209,ntmps209;go_wp2;clear n g v
   go_loopw [23] (λi wr=>∃(k:Nat),k<=x.x.length/\i=.int .i64 k/\Ae x f=(x.x.drop k).all (λt=>EL t f.s)/\RT wr (w.heap.size+1) f a c/\Bw w wr) (mz x.x.length)
   case atStart=>exact⟨0,qd,rfl,G.o,by refine⟨?_,?_,?_⟩<;>simp[go_sem],AX⟩
   case round=>
    obtain⟨k,N,rfl,B,O,hb⟩:=hrel;obtain⟨HG,HBX⟩:=Ah B O;clear B;by_cases E:k<x.x.length
    .obtain⟨t,r⟩:=Ba E;obtain⟨b,o,rfl,J,R,L,I,T,M,W⟩:=(D.d hb).get r;have A:Hid (x.x.drop k=t::x.x.drop (k+1)):=CF r;obtain⟨C,u⟩:=Ah (λo=>(hv.d hb).d (E6 o)) (λw' h=>ws t f a c w' h);have Y:∀o,(wr.alloc o).cell? ⟨w.heap.size+1,0,none⟩=_:=λo=>zab (E6 o) O.1;have H:∀o,(wr.alloc o).cell? ⟨w.heap.size+1,1,none⟩=_:=λo=>zab (E6 o) O.2.1;have K:∀o,(wr.alloc o).cell? ⟨w.heap.size+1,2,none⟩=_:=λo=>zab (E6 o) O.2.2;clear O;cases p:EL t f.s
     all_goals
      rw[p]at u;go_wp2_with (go_at_call 253;refine(u.o _ (C.o _)).rtn λU l=>?_)
     .go_ret;exact⟨AL (by rw[HG.o,A.o,YP,p];rfl),hb.c ((Aj.thn l).j hb.size)⟩
     go_roundw
     case rel=>exact⟨k+1,qd,qm,by rw[HG.o,A.o,YP,p];rfl,HBX.o.d (Aj.thn l),hb.c ((Aj.thn l).j hb.size)⟩
     case measure=>(simp;omega)
    exact QR
  have m:Hid (Ae x f=false):=zo7 g;have v:((f.s.length:Int) != x.aa)=true:=by simp[g]
  go_enter func209,ntmps209;go_wp2;go_ret;exact⟨AL m.o.y,AX⟩
 have m:Hid (Ae x f=false):=zo0 n;go_enter func209,ntmps209;go_wp2;go_ret;exact⟨AL m.o.y,AX⟩
section
attribute [local go_sem ↓] wp_at_zero wp_at_succ
structure CP(w:World) (nb:Nat) (x:Al) (a:Option Addr) (c:Nat):Prop where
 c0:w.cell? ⟨nb,0,none⟩=some (.string x.z)
 c1:w.cell? ⟨nb,1,none⟩=some (.int .i64 x.aa)
 c2:w.cell? ⟨nb,2,none⟩=some (.slice a x.x.length c)
 tt:E9 none w a x.x
def CP.d{w w' nb x a c}(h:CP w nb x a c)(b:Bw w w'):CP w' nb x a c:=⟨zab b h.c0,zab b h.c1,zab b h.c2,h.tt.d b⟩
def OP(nb x a c k f w)(q:CP w nb x a c)(hF:DB w k f)(hl:x.x.length<=1048576) :
  Ca 152 #[Pn nb,k] w λe w'=>e=.returned (.bool (Ae x f))/\Bw w w':=by
 obtain⟨y,u,t,O⟩:=q;obtain⟨b,o,rfl,A,r,sa,l,v,m⟩:=hF;obtain⟨p,D⟩:=Ah (λw'(h:Bw w w')=>xW x a c f sa l w' (O.d h) (m.d h) hl) (yX w.heap.size w);clear O m;go_enter func152,ntmps152;go_wp2_with fail
 go_region_held3 (λw'=>At w' nb 0 (.string x.z)/\At w' nb 1 (I6 x.aa)/\At w' nb 2 (.slice a x.x.length c)/\At w' b o (I6 f.tag)/\At w' b (o+1) (.string f.z)/\At w' b (o+2) (.slice sa f.s.length l)/\Bw w w') ((go_split_ands;refine⟨?_,?_,?_,?_,?_,?_,?_⟩<;>first|(simp[*];done)|exact D.o.drew|exact zab g qk|exact TG qk (Below.j g (Below.size qk)))) (first|(go_at_call 209;refine(p.o _ (by first|exact D.o.drew|assumption)).rtn λw' g=>?_)|fail)
 rename_i i;have n:=Aa i.2.2.2.2.2.2;clear i;go_wp2_with fail;go_ret;exact⟨rfl,n.o⟩
structure Cn where
 neg:Bool
 N:Nat
 node:Nat
 x:List Jt
 F:Al
 G:List YtikojfajahnhgaaGreat.F
structure Uw(w:World) (c:Cn) (ta:Option Addr):Prop where
 x:DS w ta c.x
 node:∃a n,CP w c.node c.F a n
 G:∃fa fc,w.cell? ⟨c.node,4,none⟩=some (.slice fa c.G.length fc)/\JG w fa c.G
def Uw.d{w w' c e}(h:Uw w c e)(b:Bw w w'):Uw w' c e:=by
 obtain⟨j,⟨a,n,f⟩,fa,fc,i,g⟩:=h;exact⟨j.d b,⟨a,n,f.d b⟩,fa,fc,zab b i,g.d b⟩
def Pj(w:World)(a:Option Addr)(cs:List Cn):Prop:=∀(i:Nat)(c:Cn),cs[i]?=some c->∃b o ta tc,a=some ⟨b,o,none⟩/\w.cell? ⟨b,o+i*4,none⟩=some (.bool c.neg)/\w.cell? ⟨b,o+i*4+1,none⟩=some (.int .i64 (c.N:Int))/\w.cell? ⟨b,o+i*4+2,none⟩=some (.pointer (some ⟨c.node,0,none⟩))/\w.cell? ⟨b,o+i*4+3,none⟩=some (.slice ta c.x.length tc)/\Uw w c ta
def Pj.d{w w' a cs}(h:Pj w a cs)(f:Bw w w'):Pj w' a cs:=by
 intro i c n;obtain⟨b,o,p,k,e,O,m,g,l,j⟩:=h i c n;exact⟨b,o,p,k,e,zab f O,zab f m,zab f g,zab f l,j.d f⟩
def sG(c:Cn):Prop:=c.x.length<=1048576/\c.G.length<=1048576/\c.F.x.length<=1048576
def NG(o:Option V):Value:=match o with
 |some v=>.tuple #[.agg #[.int .i64 v.u,.int .i64 v.num,.string v.J],.bool true]
 |none=>.tuple #[.agg #[.int .i64 0,.int .i64 0,.string ⟨#[]⟩],.bool false]
def Ph(w:World)(b:Nat)(t:TypeId)(x0 x1 x2:Value):Prop:=w.heap[b]?=some (.cells #[x0,x1,x2] t (0,0))
def Ph.G{w b t x0 x1 a}(h:Ph w b t x0 x1 a):(At w b 0 x0/\At w b 1 x1/\At w b 2 a) /\
  (w.frozen? ⟨b,0,none⟩=false/\w.frozen? ⟨b,1,none⟩=false/\w.frozen? ⟨b,2,none⟩=false)/\b<w.heap.size:=by
 unfold Ph at h;refine⟨⟨?_,?_,?_⟩,⟨?_,?_,?_⟩,Ak h⟩<;>simp[World.cell?,World.frozen?,h]
def lr(s a c f){q}(w)(hv:Gi q w a f)(hl:f.length<=1048576) :
  Ca 238 #[.slice a f.length c,.string s] w λe w'=>e=.returned (NG (CT f s))/\Bw w w':=by
 go_enter func238,ntmps238;go_wp2
 go_loopw [10] (λi wr=>∃(k:Nat),k<=f.length/\i=I6 k/\CT f s=CT (f.drop k) s/\Ph wr w.heap.size 187 (I6 0) (I6 0) (.string ⟨#[]⟩)/\Bw w wr) (mz f.length)
 case atStart=>exact⟨0,qd,rfl,rfl,heap_alloc_new _ _,Aj⟩
 case round=>
  obtain⟨k,J,rfl,t,u,g⟩:=hrel;obtain⟨l,HBX⟩:=Ah t u;clear t u;obtain⟨⟨y,m,n⟩,⟨L,N,E⟩,p⟩:=HBX.o.G;by_cases B:k<f.length
  .obtain⟨x,O⟩:=Ba B;obtain⟨b,o,rfl,I,K,H,D,M⟩:=(hv.d g).get O;have r:Hid (f.drop k=x::f.drop (k+1)):=CF O;have C:∀o,Bw w (wr.alloc o):=λo=>g.alloc g.size _;cases j:(x.A.toList==s.toList)
   .have HN:Hid (CT f s=CT (f.drop (k+1)) s):=show CT f s=_ from by
     rw[EZ]at j;have:¬x.A=s:=λh=>by subst h;simp at j
     rw[l.o,r.o,MY,if_neg this]
    have z:Hid (∀o,Ph (wr.alloc o) w.heap.size 187 (I6 0) (I6 0) (.string ⟨#[]⟩)):=show∀o,Ph (wr.alloc o) w.heap.size 187 (I6 0) (I6 0) (.string ⟨#[]⟩) fromλo=>((An.alloc AH o).block _ p).c HBX.o;go_wp2;go_roundw
    case rel=>exact⟨k+1,qd,qm,HN.o,z.o _,C _⟩
    case measure=>(simp;omega)
   have HN:Hid (CT f s=some x.val):=show CT f s=_ from by
    rw[EZ]at j;have:x.A=s:=by simpa using j
    rw[l.o,r.o,MY,if_pos this]
   go_wp2;refine bodyPost_ret (v:=NG (some x.val)) (by simp[results,results238,go_sem,y,m,n,p,NG]) rfl ⟨Nr,?_⟩;exact(((g.setCell qe _).setCell qe _).setCell qe _).alloc (by simp;exact g.size) _
  have HN:Hid (CT f s=none):=show CT f s=_ from by rw[l.o,yy qd];rfl
  go_wp2;refine bodyPost_ret (v:=NG none) (by simp[results,results238,go_sem,y,m,n,NG]) rfl ⟨Nr,?_⟩;exact((g.setCell qe _).setCell qe _).setCell qe _
end
end Go.Proofs.YtikojfajahnhgaaGreat
