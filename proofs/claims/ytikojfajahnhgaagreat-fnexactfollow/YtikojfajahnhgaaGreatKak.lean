import Derived.Test.YtikojfajahnhgaaGreatKai
set_option linter.all false
set_option maxHeartbeats 6400000
set_option maxRecDepth 100000
namespace Go.Proofs.YtikojfajahnhgaaGreat
attribute [local simp] At I6 Pn mzI
attribute [local go_sem] At I6 Pn
open Go.RowKit Go.Proofs.Tryz
attribute [local go_sem ↓] wp_at_zero wp_at_succ
def Ee(w:World)(v:Value)(f:F):Prop:=
 ∃b o,v=.pointer (some ⟨b,o,none⟩)/\w.cell? ⟨b,o,none⟩=some (.int .i64 f.tag)/\w.cell? ⟨b,o+1,none⟩=some (.string f.ak)/\∃a c,w.cell? ⟨b,o+2,none⟩=some (.slice a f.ad.length c)/\Bj w a f.ad
def Ee.J{w w' v f}(h:Ee w v f)(d:Bw w w'):Ee w' v f:=by
 obtain⟨b,o,e,O,j,a,c,i,g⟩:=h;exact⟨b,o,e,zab d O,zab d j,a,c,zab d i,g.J d⟩
def F7{P:World->Prop}{w Y O a}(h:∀wt,Bw w wt->wt.heap[w.heap.size]?=some Y->wt.heap[w.heap.size+1]?=some O->wt.heap[w.heap.size+2]?=some a->P wt):P (((w.alloc Y).alloc O).alloc a):=by
 refine h _ ((Af.alloc qe _).alloc qg _) ?_ ?_ ?_
 .exact(yV _ _ _ qg).j ((yV _ _ _ qe).j (heap_alloc_new _ _))
 .exact(yV _ _ _ qe).j qQ
 have:=heap_alloc_new ((w.alloc Y).alloc O) a;simpa using this
def we(n m j pv)(i s:Nat)(f v w)(d:[n,m,j][i]?=some pv)(hF:Ee w pv f)(hv:f.ad[s]?=some v) :
  Ca 174 #[.agg #[n,m,j],.agg #[I6 (i:Int),I6 (s:Int)]] w λe w'=>e=.returned (.agg #[I6 v.kind,I6 v.num,.string v.av])/\Bw w w':=by
 have hi3:i<3:=by
  by_cases h:i<3
  .exact h
  rw[Yr qg]at d;cases d
 obtain⟨b,o,rfl,r,u,a,c,l,k⟩:=hF;obtain⟨M,y,rfl,u0,u1,u2⟩:=k s v hv;have q:s<f.ad.length:=(yf.1 hv).1;go_enter func174,ntmps174;go_upto_region 1 with fail;refine F7 ?_;intro w0 Y g ah O;have D:At w0 w.heap.size i (.pointer (some ⟨b,o,none⟩)):=by
  rcases i with _|_|_|i
  .simp at d;subst d;simp[World.cell?,g]
  .simp at d;subst d;simp[World.cell?,g]
  .simp at d;subst d;simp[World.cell?,g]
  omega
 have G:At w0 (w.heap.size+1) 0 (I6 (i:Int)):=qJ;have t2:At w0 (w.heap.size+1) 1 (I6 (s:Int)):=qJ;have x0:At w0 (w.heap.size+2) 0 (I6 0):=QH;have x1:At w0 (w.heap.size+2) 1 (I6 0):=QH;have p:At w0 (w.heap.size+2) 2 (.string ⟨#[]⟩):=QH;have K:w0.frozen? ⟨w.heap.size+2,0,none⟩=false:=QG;have H:w0.frozen? ⟨w.heap.size+2,1,none⟩=false:=QG;have I:w0.frozen? ⟨w.heap.size+2,2,none⟩=false:=QG;have x:=zab Y l;have B:=zab Y u0;have v1:=zab Y u1;have v2:=zab Y u2;have A:(0:Int)<=(i:Int):=qd;have C:(i:Int)<3:=qd;have J:(0:Int)<=(s:Int):=qd;have L:(s:Int)<(f.ad.length:Int):=qd;obtain⟨t,E⟩:=Ak Y O;have z:w.heap.size+2<w0.heap.size:=As O;clear Y g ah O r u l k u0 u1 u2 hv d;go_wp2_with fail;go_region;go_wp2_with fail;refine bodyPost_ret (v:=.agg #[I6 v.kind,I6 v.num,.string v.av]) (by simp[results,results174,go_sem,x0,x1,p]) rfl ⟨rfl,?_⟩;exact(((t.o.setCell qg _).setCell qg _).setCell qg _).drew
structure Jt where
 slot:Nat
 op:Int
 fact:Nat
 at_:Nat
def IR(t:Jt):List Value:=[.int .i64 (t.slot:Int),.int .i64 t.op,.int .i64 (t.fact:Int),.int .i64 (t.at_:Int)]
def DQ(w:World)(a:Option Addr)(ts:List Jt):Prop:=
 ∀(i:Nat)(t:Jt),ts[i]?=some t->∃b o,a=some ⟨b,o,none⟩/\w.cell? ⟨b,o+i*4,none⟩=some (.int .i64 (t.slot:Int))/\w.cell? ⟨b,o+i*4+1,none⟩=some (.int .i64 t.op)/\w.cell? ⟨b,o+i*4+2,none⟩=some (.int .i64 (t.fact:Int))/\w.cell? ⟨b,o+i*4+3,none⟩=some (.int .i64 (t.at_:Int))
def DQ.J{w w' a ts}(h:DQ w a ts)(c:Bw w w'):DQ w' a ts:=by
 intro i t f;obtain⟨b,o,e,O,j,g,d⟩:=h i t f;exact⟨b,o,e,zab c O,zab c j,zab c g,zab c d⟩
def Ej(w:World)(p0 p1 p2:Value)(T:List F):Prop:=∀(i:Nat)(f:F),T[i]?=some f->∃pv,[p0,p1,p2][i]?=some pv/\Ee w pv f
def Ej.J{w w' a c b T}(h:Ej w a c b T)(g:Bw w w'):Ej w' a c b T:=by
 intro i f e;obtain⟨pv,j,d⟩:=h i f e;exact⟨pv,j,d.J g⟩
def Jt.fits(t:Jt)(T:List F)(f:F):Prop:=t.slot<f.ad.length/\∃g,T[t.fact]?=some g/\t.at_<g.ad.length
def Aq(T:List F)(f:F)(t:Jt):Bool:=A2 t.op (f.ad[t.slot]?.getD (0,0,⟨#[]⟩)) (((T[t.fact]?.map (·.ad)).getD [])[t.at_]?.getD (0,0,⟨#[]⟩))
def zO{T f g t v u}(c:f.ad[t.slot]?=some v)(a:T[t.fact]?=some g)(b:g.ad[t.at_]?=some u):Aq T f t=A2 t.op v u:=by
 unfold Aq;rw[c,a];simp[b]
def Bo{P:World->Prop}{w Y O}(h:∀wt,Bw w wt->wt.heap[w.heap.size]?=some Y->wt.heap[w.heap.size+1]?=some O->P wt):P ((w.alloc Y).alloc O):=
 h _ (Af.alloc qe _) ((yV _ _ _ qe).j (heap_alloc_new _ _)) qQ
def AO{w:World}{b ty x0 x1 a O}(h:w.heap[b]?=some (.cells #[x0,x1,a,O] ty (0,0))):At w b 0 x0/\At w b 1 x1/\At w b 2 a/\At w b 3 O:=by
 refine⟨?_,?_,?_,?_⟩<;>simp[World.cell?,h]
def Ao{w:World}{b ty x0 x1 a}(h:w.heap[b]?=some (.cells #[x0,x1,a] ty (0,0))):At w b 0 x0/\At w b 1 x1/\At w b 2 a:=by
 refine⟨?_,?_,?_⟩<;>simp[World.cell?,h]
def fL{P:Prop}(h:P:=by
 first
  | (have _:=tP3
     have HN:=Aa (show ts.all (Aq T f)=false by rw[HD.o,hm];rfl))
  |(have HN:=Aa (show ts.all (Aq T f)=(ts.drop (k+1)).all (Aq T f) by rw[HD.o,hm];rfl))
 rw[hm]at HME;clear hm HD;go_wp2_with fail
 go_region_held3 (λw'=>At w' wr.heap.size 0 (I6 (t.slot:Int))/\At w' wr.heap.size 1 (I6 t.op)/\At w' wr.heap.size 2 (I6 (t.fact:Int))/\At w' wr.heap.size 3 (I6 (t.at_:Int))/\At w' (w.heap.size+1) 0 p0/\At w' (w.heap.size+1) 1 p1/\At w' (w.heap.size+1) 2 p2/\At w' fb (fo+2) (.slice (some ⟨vb,vo,none⟩) f.ad.length fc)/\At w' vb (vo+t.slot*3) (I6 v.kind)/\At w' vb (vo+t.slot*3+1) (I6 v.num)/\At w' vb (vo+t.slot*3+2) (.string v.av)/\Bw w0 w'/\w2.heap.size<=w'.heap.size) ((go_split_ands;refine⟨?_,?_,?_,?_,?_,?_,?_,?_,?_,?_,?_,?_,?_⟩<;>first|(simp[*];done)|exact D2.o.drew|exact zab hb' (by assumption)|exact Kn (by assumption) (Below.ac hb' (by omega))|omega)) (first|(go_at_call 174;refine(HVAL.o _ (by first|exact W2.o.drew|exact W2.o|exact H0.o.j (Below.ac (by assumption) H0.o.size))).an λw' hb'=>?_;have O:=hb'.size)|(go_at_call 173;refine(HME.o _).an λw' hb'=>?_;have O:=hb'.size)|fail)
 rename_i hh;have Y:=Aa hh.2.2.2.2.2.2.2.2.2.2.2.1;clear hh;go_wp2_with fail
 first
  | (have _:=tP3
     go_ret;exact⟨AE HN.o.ai,H0.o.aj Y.o⟩)
  | (go_roundw
     case rel=>exact⟨k+1,by go_num,by omega,HN.o,Y.o⟩
     case measure=>(simp;omega))
 ):P:=h
def MQ(U ct nd p0 p1 p2 L ts R tc T f w)(z:DQ w R ts)(A:Ej w p0 p1 p2 T)(x:Ee w L f)(hl:ts.length<=1048576)(b:∀t∈ts,t.fits T f) :
  Ca 113 #[.agg #[U,ct,nd,.slice R ts.length tc],.agg #[p0,p1,p2],L] w λe w'=>e=.returned (.bool (ts.all (Aq T f)))/\Bw w w':=by
 obtain⟨HJ,HT,HF,ay⟩:=BE z A x b;clear z A x b;go_enter func113,ntmps113;go_upto_region 1 with fail;refine Bo ?_;intro w0 aj ai p;obtain⟨_,_,_,c3⟩:=AO ai;obtain⟨Z,t1,t2⟩:=Ao p;have H0:=Aa aj;have aA:w.heap.size+1<w0.heap.size:=As p;clear aj ai p;go_wp2_with fail
 go_loopw [12] (λiv wr=>∃(k:Nat),iv=I6 (k:Int)/\k<=ts.length/\ts.all (Aq T f)=(ts.drop k).all (Aq T f)/\Bw w0 wr) (mz ts.length)
 case atStart=>exact⟨0,rfl,yA _,rfl,Aj⟩
 case round=>
  obtain⟨k,rfl,aB,M,d⟩:=hrel;obtain⟨r,c,Y⟩:=AQ M d (H0.o.aj d);have aC:=d.size;clear M d;by_cases hk:k<ts.length
  .obtain⟨t,m⟩:=AJ hk;obtain⟨jb,jo,rfl,j0,W,j2,j3⟩:=(HJ.o.J Y.o) k t m;obtain⟨q,g,n,H⟩:=ay.o t (yd m);obtain⟨v,hv⟩:∃v,f.ad[t.slot]?=some v:=⟨f.ad[t.slot],by simp[q]⟩
   obtain⟨u,hu⟩:∃u,g.ad[t.at_]?=some u:=⟨g.ad[t.at_],by simp[H]⟩
   obtain⟨pv,I,av⟩:=HT.o _ g n;obtain⟨HD,HVAL,HME⟩:=AQ (show ts.all (Aq T f)=(A2 t.op v u&&(ts.drop (k+1)).all (Aq T f)) by rw[r.o,Ck m,Y3,zO hv n hu]) (λw'(h:Bw w w')=>we p0 p1 p2 pv t.fact t.at_ g u w' I (av.J h) hu) (λw'=>Vi v u t.op w');obtain⟨fb,fo,rfl,s0,s1,fa,fc,D,K⟩:=HF.o;obtain⟨vb,vo,rfl,B,y,E⟩:=K _ v hv;have C:=zab c.o Z;have r1:=zab c.o t1;have r2:=zab c.o t2;have s:=zab Y.o D;have G:=zab Y.o B;have v1:=zab Y.o y;have v2:=zab Y.o E;have z0:(0:Int)<=(k:Int):=qd;have z1:(k:Int)<(ts.length:Int):=qd;have z2:(0:Int)<=(t.slot:Int):=qd;have z3:(t.slot:Int)<(f.ad.length:Int):=qd;clear m hv hu I av n r s0 s1 D K B y E H;go_upto_region 4 with fail;refine Bt ?_;intro w2 O N;obtain⟨d0,d1,d2,d3⟩:=AO N;have q0:=zab O C;have q1:=zab O r1;have q2:=zab O r2;have e2:=zab O s;have x0:=zab O G;have x1:=zab O v1;have x2:=zab O v2;obtain⟨D2,W2⟩:=Ak (c.o.aj O) (Y.o.aj O);have az:=O.size;clear O N C r1 r2 s G v1 v2 j0 W j2 j3 c Y
   cases hm:A2 t.op v u
   .have tP3:=trivial;exact fL
   exact fL
  have ax:k=ts.length:=qd;subst ax;have HN:=Aa (show ts.all (Aq T f)=true by rw[r.o,yD AA];rfl);have hy:¬(ts.length:Int)<(ts.length:Int):=qd;go_wp2_with fail;go_ret;exact⟨AE HN.o.ai,Y.o⟩
end Go.Proofs.YtikojfajahnhgaaGreat
