import Derived.Test.YtikojfajahnhgaaGreatKae
import Derived.Test.YtikojfajahnhgaaGreatKac
set_option linter.all false
set_option maxHeartbeats 12800000
set_option maxRecDepth 100000
namespace Go.Proofs.YtikojfajahnhgaaGreat
open Go.RowKit Go.Proofs.Tryz
attribute [local go_sem ↓] wp_at_zero wp_at_succ
attribute [local simp] At I6 Pn mzI Bk
attribute [local go_sem] At I6 Pn Bk
variable{P:Prop}
theorem Ad{p}(h:p):Hid p:=h
def JH(s:Sp):Aj:=[.int .i64 (s.1:Int),.int .i64 (s.2:Int)]
def oo:∀(S:BS)(i:Nat)(s:Sp),S[i]?=some s->(S.flatMap JH)[i*2]?=some (I6 (s.1:Int))/\(S.flatMap JH)[i*2+1]?=some (I6 (s.2:Int))
 |[],i,s,h=>by simp at h
 |x::r,0,s,h=>by
  simp at h
  subst h
  exact⟨rfl,rfl⟩
 |x::r,i+1,s,h=>by
  have:=oo r i s qu
  rw[yX]
  refine⟨?_,?_⟩
  .rw[yB (by simp[JH];omega),show(i+1)*2-(JH x).length=i*2 by simp[JH];omega]
   exact this.1
  rw[yB (by simp[JH];omega),show(i+1)*2+1-(JH x).length=i*2+1 by simp[JH];omega]
  exact this.2
def Jz.owns{w base n a c S}(h:w.ownsRow base 375 2 (.slice a n c) n (S.flatMap JH)):Jz none w a S:=by
 intro i s d;obtain⟨e,k⟩:=oo S i s d;obtain⟨g,rfl,_,b,_⟩:=CG h e;obtain⟨l,O,_,f,_⟩:=CG h k;cases O;refine⟨g,0,[I6 (s.1:Int),I6 (s.2:Int)],rfl,Qb.ac _ _ _,rfl,?_,rfl⟩;intro j v hj;rw[Yj]
 match j,hj with
 |0,hj=>simp at hj;subst hj;exact b
 |1,hj=>simp at hj;subst hj;exact f
def xK:(prog.info? 375).map (λi=>(i.zero,i.size,i.bytes))=some (some (.agg #[I6 0,I6 0]),2,16):=qg
theorem RS(w:Aa)(L:Aj)(t a)(e:some (⟨w.heap.size,0,none⟩:Addr)=some a)(j u)(h:L[j]?=some u):(w.alloc (.cells L.toArray t)).cell? (a.add j)=some u:=by
 cases e
 rw[Wu,Yj];have b:=heap_alloc_new w (.cells L.toArray t);simp only[World.cell?,b];simpa using h
def CH(w:Aa)(L:Aj)(t b)(c:b=w.heap.size)(a)(e:some (⟨b,0,none⟩:Addr)=some a)(j u)(h:L[j]?=some u):(w.alloc (.cells L.toArray t)).cell? (a.add j)=some u:=by grind[RS]
theorem AZ{w w' base e size v n xs}(h:w.ownsRow base e size v n xs)(a:Bw w w'):w'.ownsRow base e size v n xs:=
 Ci h (λg b=>a.block g (h.lt g b).2)
def zm2(s):∀u∈JH s,u.oneCell'=true:=by
 intro u hu;simp[JH]at hu;rcases hu with rfl|rfl<;>rfl
def Jd(es:AL):Prop:=∀e∈es,0<=e.op/\e.op<256
def DJ(w:Aa)(v:Value)(f:F):Prop:=
 ∃b o,v=.pointer (some ⟨b,o,none⟩)/\w.cell? ⟨b,o,none⟩=some (.int .i64 f.tag)/\w.cell? ⟨b,o+1,none⟩=some (.string f.E)/\∃a c,w.cell? ⟨b,o+2,none⟩=some (.slice a f.v.length c)/\Cj w a f.v
theorem DJ.e{w w' v f}(h:DJ w v f)(d:Bw w w'):DJ w' v f:=by
 obtain⟨b,o,e,O,g,a,c,i,j⟩:=h;exact⟨b,o,e,zab d O,zab d g,a,c,zab d i,j.e d⟩
def Hu{P:Aa->Prop}{w o1 O a}(h:∀wt,Bw w wt->wt.heap[w.heap.size]?=some o1->wt.heap[w.heap.size+1]?=some O->wt.heap[w.heap.size+2]?=some a->P wt):P (((w.alloc o1).alloc O).alloc a):=by
 refine h _ ((Ar.alloc qf _).alloc qe _) ?_ ?_ ?_
 .exact(yN _ _ _ qe).c ((yN _ _ _ qf).c (heap_alloc_new _ _))
 .exact(yN _ _ _ qf).c qH
 have:=heap_alloc_new ((w.alloc o1).alloc O) a;simpa using this
def zok(m n l pv)(i s:Nat)(f v w)(d:[m,n,l][i]?=some pv)(hF:DJ w pv f)(hv:f.v[s]?=some v) :
  Ca 174 #[.agg #[m,n,l],.agg #[I6 (i:Int),I6 (s:Int)]] w λe w'=>e=.returned (.agg #[I6 v.w,I6 v.num,.string v.O])/\Bw w w':=by
 have hi3:i<3:=by
  by_cases h:i<3
  .exact h
  rw[YN qe]at d;cases d
 obtain⟨b,o,rfl,x,A,a,c,t,q⟩:=hF;obtain⟨N,z,rfl,u0,u1,u2⟩:=q s v hv;have k:s<f.v.length:=(yf.1 hv).1;go_enter func174,ntmps174;go_upto_region 1 with fail;refine Hu ?_;intro w0 g j ai O;have I:At w0 w.heap.size i (.pointer (some ⟨b,o,none⟩)):=by
  rcases i with _|_|_|i
  .simp at d;subst d;simp[World.cell?,j]
  .simp at d;subst d;simp[World.cell?,j]
  .simp at d;subst d;simp[World.cell?,j]
  omega
 have L:At w0 (w.heap.size+1) 0 (I6 (i:Int)):=Sf;have t2:At w0 (w.heap.size+1) 1 (I6 (s:Int)):=Sf;have x0:At w0 (w.heap.size+2) 0 (I6 0):=by simp[World.cell?,O]
 have x1:At w0 (w.heap.size+2) 1 (I6 0):=by simp[World.cell?,O]
 have r:At w0 (w.heap.size+2) 2 (.string ⟨#[]⟩):=by simp[World.cell?,O]
 have G:w0.frozen? ⟨w.heap.size+2,0,none⟩=false:=Ub;have H:w0.frozen? ⟨w.heap.size+2,1,none⟩=false:=Ub;have B:w0.frozen? ⟨w.heap.size+2,2,none⟩=false:=Ub;have C:=zab g t;have E:=zab g u0;have v1:=zab g u1;have v2:=zab g u2;have K:(0:Int)<=(i:Int):=qd;have D:(i:Int)<3:=qd;obtain⟨u,y⟩:=CZ k;obtain⟨p,J⟩:=An g O;have M:w.heap.size+2<w0.heap.size:=Ap O;go_wp2;go_region;go_wp2;refine bodyPost_ret (v:=.agg #[I6 v.w,I6 v.num,.string v.O]) (by simp[results,results174,go_sem,x0,x1,r]) rfl ⟨rfl,?_⟩;exact(((p.setCell qe _).setCell qe _).setCell qe _).drew
structure Jt where
 aj:Nat
 op:Int
 aw:Nat
 Y:Nat
def Lz(t:Jt):Aj:=[.int .i64 (t.aj:Int),.int .i64 t.op,.int .i64 (t.aw:Int),.int .i64 (t.Y:Int)]
def EJ(w:Aa)(a:Af)(ts:List Jt):Prop:=
 ∀(i:Nat)(t:Jt),ts[i]?=some t->∃b o,a=some ⟨b,o,none⟩/\w.cell? ⟨b,o+i*4,none⟩=some (.int .i64 (t.aj:Int))/\w.cell? ⟨b,o+i*4+1,none⟩=some (.int .i64 t.op)/\w.cell? ⟨b,o+i*4+2,none⟩=some (.int .i64 (t.aw:Int))/\w.cell? ⟨b,o+i*4+3,none⟩=some (.int .i64 (t.Y:Int))
theorem EJ.e{w w' a ts}(h:EJ w a ts)(b:Bw w w'):EJ w' a ts:=by grind[EJ,zab]
def E_(w:Aa)(p0 p1 p2:Value)(T:Ab):Prop:=∀(i:Nat)(f:F),T[i]?=some f->∃pv,[p0,p1,p2][i]?=some pv/\DJ w pv f
theorem E_.e{w w' b c a T}(h:E_ w b c a T)(d:Bw w w'):E_ w' b c a T:=by grind[E_,DJ,DJ.e]
def Jt.ah(t:Jt)(T:Ab)(f:F):Prop:=t.aj<f.v.length/\∃g,T[t.aw]?=some g/\t.Y<g.v.length
def AA(T:Ab)(f:F)(t:Jt):Bool:=Bv t.op (f.v[t.aj]?.getD (0,0,⟨#[]⟩)) (((T[t.aw]?.map (·.v)).getD [])[t.Y]?.getD (0,0,⟨#[]⟩))
def zr7{T f g t v u}(c:f.v[t.aj]?=some v)(a:T[t.aw]?=some g)(b:g.v[t.Y]?=some u):AA T f t=Bv t.op v u:=by
 unfold AA;rw[c,a];simp[b]
def Ce{P:Aa->Prop}{w o1 O}(h:∀wt,Bw w wt->wt.heap[w.heap.size]?=some o1->wt.heap[w.heap.size+1]?=some O->P wt):P ((w.alloc o1).alloc O):=
 h _ (Ar.alloc qf _) ((yN _ _ _ qf).c (heap_alloc_new _ _)) qH
def AX{w:Aa}{b ty x0 x1 c a}(h:Bk w b #[x0,x1,c,a] ty):At w b 0 x0/\At w b 1 x1/\At w b 2 c/\At w b 3 a:=by
 refine⟨?_,?_,?_,?_⟩<;>simp[World.cell?,h]
def Ax{w:Aa}{b ty x0 x1 a}(h:Bk w b #[x0,x1,a] ty):At w b 0 x0/\At w b 1 x1/\At w b 2 a:=by
 refine⟨?_,?_,?_⟩<;>simp[World.cell?,h]
def kK(h:P:=by
 first
  | (have _:=tP3
     have HN:=Ad (show ts.all (AA T f)=false by rw[HD.o,hm];rfl))
  |(have HN:=Ad (show ts.all (AA T f)=(ts.drop (k+1)).all (AA T f) by rw[HD.o,hm];rfl))
 rw[hm]at HME;clear hm HD;go_wp2_with fail
 go_region_held3 (λw'=>At w' wr.heap.size 0 (I6 (t.aj:Int))/\At w' wr.heap.size 1 (I6 t.op)/\At w' wr.heap.size 2 (I6 (t.aw:Int))/\At w' wr.heap.size 3 (I6 (t.Y:Int))/\At w' (w.heap.size+1) 0 p0/\At w' (w.heap.size+1) 1 p1/\At w' (w.heap.size+1) 2 p2/\At w' fb (fo+2) (.slice (some ⟨vb,vo,none⟩) f.v.length fc)/\At w' vb (vo+t.aj*3) (I6 v.w)/\At w' vb (vo+t.aj*3+1) (I6 v.num)/\At w' vb (vo+t.aj*3+2) (.string v.O)/\Bw w0 w'/\w2.heap.size<=w'.heap.size) ((go_split_ands;refine⟨?_,?_,?_,?_,?_,?_,?_,?_,?_,?_,?_,?_,?_⟩<;>first|(simp[*];done)|exact D2.drew|exact zab hb' (by assumption)|exact V3 (by assumption) (Below.j hb' (by omega))|omega)) (first|(go_at_call 174;refine(HVAL _ (by first|exact W2.drew|exact W2|exact H0.c (Below.j (by assumption) H0.size))).rtn λw' hb'=>?_;have O:=hb'.size)|(go_at_call 173;refine(HME _).rtn λw' hb'=>?_;have O:=hb'.size)|fail)
 rename_i hh;have D9:=Ad hh.2.2.2.2.2.2.2.2.2.2.2.1;clear hh;go_wp2_with fail
 first
  | (have _:=tP3
     go_ret;exact⟨Ba HN.z,H0.thn D9⟩)
  | (go_roundw
     case rel=>exact⟨k+1,by go_num,by omega,HN,D9⟩
     case measure=>(simp;omega))
 ):=h
def PQ(ng ct nd p0 p1 p2 D ts G tc T f w)(B:EJ w G ts)(A:E_ w p0 p1 p2 T)(y:DJ w D f)(hl:ts.length<=1048576)(b:∀t∈ts,t.ah T f) :
  Ca 113 #[.agg #[ng,ct,nd,.slice G ts.length tc],.agg #[p0,p1,p2],D] w λe w'=>e=.returned (.bool (ts.all (AA T f)))/\Bw w w':=by
 obtain⟨I,HT,HF,az⟩:=BP B A y b;clear B A y b;go_enter func113,ntmps113;go_upto_region 1 with fail;refine Ce ?_;intro w0 r aj q;obtain⟨_,_,_,c3⟩:=AX aj;obtain⟨t0,M,t2⟩:=Ax q;have H0:=Ad r;have aC:w.heap.size+1<w0.heap.size:=Ap q;clear r aj q;go_wp2
 go_loopw [12] (λiv wr=>∃(k:Nat),iv=I6 (k:Int)/\k<=ts.length/\ts.all (AA T f)=(ts.drop k).all (AA T f)/\Bw w0 wr) (mz ts.length)
 .exact⟨0,rfl,yn _,rfl,Au⟩
 obtain⟨k,rfl,aD,E,d⟩:=hrel;obtain⟨s,m,af⟩:=AK E d (H0.thn d);have aB:=d.size;clear E d;by_cases C:k<ts.length
 .obtain⟨t,n⟩:=Bq C;obtain⟨jb,jo,rfl,j0,j1,j2,j3⟩:=(I.e af) k t n;obtain⟨p,g,x,ar⟩:=az t (yd n);obtain⟨v,hv⟩:∃v,f.v[t.aj]?=some v:=⟨f.v[t.aj],by simp[p]⟩
  obtain⟨u,hu⟩:∃u,g.v[t.Y]?=some u:=⟨g.v[t.Y],by simp[ar]⟩
  obtain⟨pv,aw,U⟩:=HT _ g x;obtain⟨HD,HVAL,HME⟩:=AK (show ts.all (AA T f)=(Bv t.op v u&&(ts.drop (k+1)).all (AA T f)) by rw[s.o,Dx n,YR,zr7 hv x hu]) (λw'(h:Bw w w')=>zok p0 p1 p2 pv t.aw t.Y g u w' aw (U.e h) hu) (λw'=>Z8 v u t.op w');obtain⟨fb,fo,rfl,s0,s1,fa,fc,K,L⟩:=HF.o;obtain⟨vb,vo,rfl,N,W,Z⟩:=L _ v hv;have R:=zab m t0;have r1:=zab m M;have r2:=zab m t2;have g2:=zab af K;have H:=zab af N;have v1:=zab af W;have v2:=zab af Z;obtain⟨z0,z1⟩:=CZ C;have z2:(0:Int)<=(t.aj:Int):=qd;have z3:(t.aj:Int)<(f.v.length:Int):=qd;go_upto_region 4 with fail
  refine BF ?_;intro w2 O ax;obtain⟨d0,d1,d2,d3⟩:=AX ax;have q0:=zab O R;have q1:=zab O r1;have q2:=zab O r2;have e2:=zab O g2;have x0:=zab O H;have x1:=zab O v1;have x2:=zab O v2;obtain⟨D2,W2⟩:=An (m.thn O) (af.thn O);have aE:=O.size;cases hm:Bv t.op v u
  .have tP3:=trivial;exact kK
  exact kK
 have J:k=ts.length:=qd;subst J;have HN:=Ad (show ts.all (AA T f)=true by rw[s.o,yH Bg];rfl);have hy:¬(ts.length:Int)<(ts.length:Int):=qd;go_wp2;go_ret;exact⟨Ba HN.z,af⟩
structure Vr where
 name:ByteArray
 aw:Nat
 aj:Nat
abbrev AY:=List Vr
def Ja(v:Vr):Aj:=[.string v.name,.int .i64 (v.aw:Int),.int .i64 (v.aj:Int)]
def LL(w:Aa)(a:Af)(vs:AY):Prop:=
 ∀(i:Nat)(v:Vr),vs[i]?=some v->∃b o,a=some ⟨b,o,none⟩/\w.cell? ⟨b,o+i*3,none⟩=some (.string v.name)/\w.cell? ⟨b,o+i*3+1,none⟩=some (.int .i64 (v.aw:Int))/\w.cell? ⟨b,o+i*3+2,none⟩=some (.int .i64 (v.aj:Int))
theorem LL.e{w w' a vs}(h:LL w a vs)(c:Bw w w'):LL w' a vs:=by
 intro i v d;obtain⟨b,o,e,O,f,g⟩:=h i v d;exact⟨b,o,e,zab c O,zab c f,zab c g⟩
def Cv:AY->ByteArray->Option Vr
 |[],_=>none
 |v::r,s=>if v.name=s then some v else Cv r s
def gQ(v r s):Cv (v::r) s=if v.name=s then some v else Cv r s:=rfl
def MN:Option Vr->Value
 |some v=>.tuple #[.agg #[.int .i64 (v.aw:Int),.int .i64 (v.aj:Int)],.bool true]
 |none=>.tuple #[.agg #[.int .i64 0,.int .i64 0],.bool false]
def nY(pb s a c vs w)(j:At w pb 1 (.slice a vs.length c))(hv:LL w a vs)(hl:vs.length<=1048576) :
  Ca 206 #[Pn pb,.string s] w λe w'=>e=.returned (MN (Cv vs s))/\Bw w w':=by
 have G:=Ad hv;have R:=Oo j;clear hv;go_enter func206,ntmps206;go_upto_region 1 with fail;refine BF ?_;intro w0 O m;obtain⟨x,H⟩:=An m O;have D:=zab O j;have Z:w.heap.size<w0.heap.size:=Ap m;clear O m j;go_wp2_with fail;clear D
 go_loopw [13] (λiv wr=>∃(k:Nat),iv=I6 (k:Int)/\k<=vs.length/\Cv vs s=Cv (vs.drop k) s/\Bk wr (w.heap.size) #[I6 0,I6 0] 275/\Bw w wr) (mz vs.length)
 .exact⟨0,rfl,yn _,rfl,x,H⟩
 obtain⟨k,rfl,W,z,q,r⟩:=hrel;obtain⟨y,d,l⟩:=AK z q r;have E:w.heap.size<wr.heap.size:=Ap q;clear z q r x;by_cases u:k<vs.length
 .obtain⟨v,hv⟩:=Bq u;obtain⟨b,o,rfl,M,Y,j2⟩:=(G.e l) k v hv;have t:=Ad (show Cv vs s=if v.name=s then some v else Cv (vs.drop (k+1)) s by rw[y.o,Dx hv,gQ]);obtain⟨K,L⟩:=CZ u;go_upto_region 4 with fail;refine BF ?_;intro f A B;obtain⟨N,U,T⟩:=Ax B;obtain⟨g,C⟩:=An ((A.block _ E).c d) (l.thn A);have ax:wr.heap.size<f.heap.size:=Ap B
  cases i:(v.name.toList==s.toList)
  .have HN:=Ad (show Cv vs s=Cv (vs.drop (k+1)) s by rw[Gu]at i;rw[t.o,if_neg (λh=>by subst h;simp at i)]);go_wp2;exact⟨⟨k+1,qm,qd,HN,g,C⟩,qe⟩
  have HN:=Ad (show Cv vs s=some v by rw[Gu]at i;rw[t.o,if_pos (by simpa using i)]);have n:At f w.heap.size 0 (I6 0):=by simp[World.cell?,g.o]
  have p:At f w.heap.size 1 (I6 0):=by simp[World.cell?,g.o]
  have x0:f.frozen? ⟨w.heap.size,0,none⟩=false:=by simp[World.frozen?,g.o]
  have x1:f.frozen? ⟨w.heap.size,1,none⟩=false:=by simp[World.frozen?,g.o]
  go_wp2;refine bodyPost_ret (v:=MN (some v)) (by simp[results,results206,go_sem,n,p,MN]) rfl ⟨OG,?_⟩;exact(C.setCell qf _).setCell qf _
 have I:k=vs.length:=qd;subst I;have HN:=Ad (show Cv vs s=none by rw[y.o,yH Bg];rfl);have J:¬(vs.length:Int)<(vs.length:Int):=qd;have n:At wr w.heap.size 0 (I6 0):=by simp[World.cell?,d.o]
 have p:At wr w.heap.size 1 (I6 0):=by simp[World.cell?,d.o]
 have x0:wr.frozen? ⟨w.heap.size,0,none⟩=false:=by simp[World.frozen?,d.o]
 have x1:wr.frozen? ⟨w.heap.size,1,none⟩=false:=by simp[World.frozen?,d.o]
 go_wp2;refine bodyPost_ret (v:=MN none) (by simp[results,results206,go_sem,n,p,MN]) rfl ⟨OG,?_⟩;exact(l.setCell qf _).setCell qf _
def Ct(t:Tm):Int:=if t.w==3 then t.op else 1
def Jy(name:ByteArray)(t:Tm):Bool:=t.w==2&&(t.F.toList==name.toList)
def Iq(name:ByteArray):A3->Nat->AD
 |[],_=>none
 |t::r,k=>if Jy name t then some k else Iq name r (k+1)
def Aq(ts:A3)(i:Nat)(name:ByteArray):AD:=Iq name (ts.take i) 0
def Uq:AD->Int
 |none=>-1
 |some k=>(k:Int)
def K1:V:=(0,0,⟨#[]⟩)
def FO(ts:A3)(i:Nat)(t:Tm):Option Tt:=
 if t.w==0 then none
 else if t.F.toList.isEmpty then some ⟨(i:Int),Ct t, -1,t.val⟩
 else match Aq ts i t.F with
  |none=>none
  |some k=>some ⟨(i:Int),Ct t,(k:Int),K1⟩
def Cy(ts:A3):Nat->Dn
 |0=>[]
 |i+1=>Cy ts i++(match ts[i]? with|none=>[]|some t=>(FO ts i t).toList)
def DW(p:Pt):Al:=if Ej p then⟨p.E,(p.s.length:Int),Cy p.s p.s.length⟩ else⟨⟨#[]⟩,0,[]⟩
def iJ(name t r k):Iq name (t::r) k=if Jy name t then some k else Iq name r (k+1):=rfl
def rn(t w) :
  Ca 208 #[.agg #[I6 t.w,I6 t.op,.string t.F,I6 t.val.w,I6 t.val.num,.string t.val.O]] w λe w'=>e=.returned (I6 (Ct t))/\Bw w w':=by
 by_cases a:t.w=3
 .rw[a];go_enter func208,ntmps208;go_wp2;go_ret;exact⟨by simp[Ct,a],Ar⟩
 go_enter func208,ntmps208;go_wp2;go_ret;exact⟨by simp[Ct,a],Ar⟩
def nh(p:Pt)(c a){q}(i:Nat)(d w)(O:Gs q w c p.s)(m:p.s[i]?=some d)(hl:p.s.length<=1048576)(au:p.s.length<=a) :
  Ca 207 #[.agg #[.bool p.neg,.string p.E,.slice c p.s.length a],I6 (i:Int)] w λe w'=>e=.returned (I6 (Uq (Aq p.s i d.F)))/\Bw w w':=by
 have I:i<p.s.length:=(yf.1 m).1;have r:(p.s.take i).length=i:=by simp;omega
 have y0:(0:Int)<=(i:Int):=qd;have y1:(i:Int)<=(a:Int):=qd;have y2:=Hk I;obtain⟨L,oi,M,_,C,G,y,B,N,K⟩:=O.get m;subst M;have z:=Ad y;clear C G y B N K;go_enter func207,ntmps207;go_wp2
 go_loopw [12] (λv wr=>∃(k:Nat),k<=i/\v=I6 k/\Aq p.s i d.F=Iq d.F ((p.s.take i).drop k) k/\At wr w.heap.size 2 (.slice (some ⟨L,oi,none⟩) p.s.length a)/\Bw w wr) (mz i)
 .exact⟨0,qd,rfl,rfl,ql,Ar⟩
 obtain⟨k,hk,rfl,u,D,hb⟩:=hrel;have HG:=Ad u;clear u;by_cases j:k<i
 .obtain⟨t,n⟩:∃t,p.s[k]?=some t:=⟨p.s[k]'(by omega),qf⟩
  have R:(p.s.take i)[k]?=some t:=by rw[YW,if_pos j,n]
  have g:Hid ((p.s.take i).drop k=t::(p.s.take i).drop (k+1)):=Dx R;obtain⟨b,o,J,U,A,c1,c2,W,Z,c5⟩:=(O.e hb).get n;cases J;obtain⟨Y,T⟩:=CZ j;have l:=λo=>zab (Gp o) D;have ar:=λo=>zab (Gp o) (zab hb z);by_cases k2:t.w=2
  .rw[k2]at A;have H:((2:Int)==2)=true:=rfl;cases x:(t.F.toList==d.F.toList)
   all_goals
    go_wp2
    go_quiet (fail)
    go_wp2
   .have f:Hid (Aq p.s i d.F=Iq d.F ((p.s.take i).drop (k+1)) (k+1)):=show Aq p.s i d.F=_ from by rw[HG.o,g.o,iJ];simp[Jy,x]
    go_roundw;exact⟨k+1,qd,qm,f,l _,GH (hb.alloc hb.size _)⟩;simp;omega
   have f:Hid (Aq p.s i d.F=some k):=show Aq p.s i d.F=_ from by rw[HG.o,g.o,iJ];simp[Jy,k2,x]
   go_ret;exact⟨GT (by rw[f.o];rfl),GH (hb.alloc hb.size _)⟩
  have f:Hid (Aq p.s i d.F=Iq d.F ((p.s.take i).drop (k+1)) (k+1)):=show Aq p.s i d.F=_ from by rw[HG.o,g.o,iJ];simp[Jy,k2]
  have H:(t.w==2)=false:=T5;go_wp2
  go_quiet (fail)
  go_wp2;exact⟨⟨k+1,qd,qm,f,l _,GH (hb.alloc hb.size _)⟩,qe⟩
 have T:=FN j;exact tH
def Dj(vs:AY)(ts:A3)(i:Nat)(t:Tm):Option Jt:=
 match Cv vs t.F with
 |none=>none
 |some v=>(match Aq ts i t.F with|none=>some ⟨i,Ct t,v.aw,v.aj⟩|some _=>none)
def Dr(vs:AY)(ts:A3):Nat->List Jt
 |0=>[]
 |i+1=>Dr vs ts i++(match ts[i]? with|none=>[]|some t=>(Dj vs ts i t).toList)
def zlx{vs ts i t}(h:ts[i]?=some t):Dr vs ts (i+1)=Dr vs ts i++(Dj vs ts i t).toList:=by simp[Dr,h]
def gi(vs ts):∀i,(Dr vs ts i).length<=i
 |0=>yA _
 |i+1=>by
  have a:=gi vs ts i
  simp only[Dr,yM]
  cases ts[i]? with
  |none=>simp;omega
  |some t=>
   cases h:Dj vs ts i t<;>simp[h]<;>omega
def xe:(prog.info? 277).map (λi=>(i.zero,i.size,i.bytes))=some (some (.agg #[I6 0,I6 0,I6 0,I6 0]),4,32):=qg
def xh(t):∀u∈Lz t,u.oneCell'=true:=by
 intro u hu;simp[Lz]at hu;rcases hu with rfl|rfl|rfl|rfl<;>rfl
def Ep{w w':Aa}{c b o}(h:w.grownBy w' c)(a:c≠some b)(hl:b<w.heap.size):w'.cell? ⟨b,o,none⟩=w.cell? ⟨b,o,none⟩:=by
 unfold World.cell?;rw[h.block b hl (λe=>a e.z)]
def Hw{w:Aa}{b ty x0 x1 d a c O}(h:Bk w b #[x0,x1,d,a,c,O] ty):At w b 0 x0/\At w b 1 x1/\At w b 2 d/\At w b 3 a/\At w b 4 c/\At w b 5 O:=by
 refine⟨?_,?_,?_,?_,?_,?_⟩<;>simp[World.cell?,h]
def AE{w:Aa}{b ty x0 x1}(h:Bk w b #[x0,x1] ty):At w b 0 x0/\At w b 1 x1:=by
 refine⟨?_,?_⟩<;>simp[World.cell?,h]
def zjY(pb)(p:Pt)(aG az Y vc vs){q}(w)(hp:w.cell? ⟨pb,1,none⟩=some (.slice Y vs.length vc))(hv:LL w Y vs)(aI:Gs q w aG p.s)(aM:p.s.length<=az)(hl:p.s.length<=1048576)(aN:vs.length<=1048576) :
  Ca 150 #[.pointer (some ⟨pb,0,none⟩),.agg #[.bool p.neg,.string p.E,.slice aG p.s.length az]] w λe w'=>(∃a c,e=.returned (.slice a (Dr vs p.s p.s.length).length c)/\w'.ownsRow w.heap.size 277 4 (.slice a (Dr vs p.s p.s.length).length c) (Dr vs p.s p.s.length).length ((Dr vs p.s p.s.length).flatMap Lz))/\Bw w w':=by
 obtain⟨HV,HT,aQ⟩:=AK hv aI hp;clear hv aI hp;go_enter func150,ntmps150;go_upto_region 1 with fail;refine BF ?_;intro w0 W aA;obtain⟨b0,b1,b2⟩:=Ax aA;have H0:=Ad W;have bc:=W.size;have a7:w.heap.size<w0.heap.size:=Ap aA;clear W aA;go_wp2
 go_loopw [13,5] (λiv tv wr=>∃(k:Nat)(a:Af)(c:Nat),iv=.int .i64 (k:Int)/\k<=p.s.length/\tv=.slice a (Dr vs p.s k).length c/\wr.ownsRow w0.heap.size 277 4 (.slice a (Dr vs p.s k).length c) (Dr vs p.s k).length ((Dr vs p.s k).flatMap Lz)/\Bw w0 wr) (λiv _ _=>p.s.length-(intOf iv).toNat)
 .exact⟨0,none,0,rfl,yn _,rfl,yJ _ _ _ _,Au⟩
 obtain⟨k,a,c,rfl,bf,rfl,ay,G⟩:=hrel;obtain⟨ROW,y,J⟩:=AK ay G (H0.thn G);have a0:=G.size;have aV:=gi vs p.s k;clear ay G;by_cases hk:k<p.s.length
 .obtain⟨t,I⟩:=Bq hk;obtain⟨mb,mo,rfl,_,c0,c1,c2,c3,c4,c5⟩:=(HT.e J).get I;obtain⟨U,aR⟩:=An (zlx (vs:=vs) I) I;have p0:=zab y b0;have p1:=zab y b1;have p2:=zab y b2;obtain⟨z0,z1⟩:=CZ hk;clear I;go_upto_region 5 with fail;refine BF ?_;intro w2 f D;obtain⟨b,C⟩:=AF wr.heap.size;rw[<-C]at D⊢;obtain⟨d0,d1,d2,d3,d4,d5⟩:=Hw D;obtain⟨Z,L,N⟩:=AK (AZ ROW f) (y.thn f) (J.thn f);have s0:=zab f p0;have s1:=zab f p1;have s2:=zab f p2;have bg:=f.size;have aY:b<w2.heap.size:=Ap D;obtain⟨aL,d⟩:=An (λg(hg:(Value.slice a (Dr vs p.s k).length c).ownBlock=some g)=>(show g<b by have:=(ROW.lt g hg).2;omega)) (nY pb t.F Y vc vs w2 (zab N aQ) (HV.e N) aN);have aU:w0.heap.size<=b:=qd;clear f D c0 c1 c2 c3 c4 c5 p0 p1 p2 ROW y J C
  cases n:Cv vs t.F with
  |none=>
   have HN:=Ad (show Dr vs p.s (k+1)=Dr vs p.s k by rw[U.o];simp[Dj,n]);rw[n]at d;unfold MN at d;clear n;go_wp2_with fail;refine d.rtn λw3 O=>?_;have u:=Ad O;clear O d;go_upto_region 6 with fail;refine BF ?_;intro w4 af r;obtain⟨R,H⟩:=An (AZ (AZ Z u) af) ((L.thn u).c (af.j (L.thn u).size));clear af r;go_wp2;exact⟨⟨k+1,a,c,qm,qd,OG,by rw[HN.o];exact R,H⟩,qp⟩
  |some v=>
   rw[n]at d;unfold MN at d;go_wp2_with fail;refine d.rtn λw3 O=>?_;obtain⟨u,R3,D3,W3⟩:=BP O (AZ Z O) (L.thn O) (N.thn O);have f0:=zab O d0;have f1:=zab O d1;have f2:=zab O d2;have f3:=zab O d3;have f4:=zab O d4;have f5:=zab O d5;have u0:=zab O s0;have u1:=zab O s1;have u2:=zab O s2;have a6:=O.size;clear O d d0 d1 d2 d3 d4 d5 s0 s1 s2 Z L N u;go_upto_region 6 with fail;refine BF ?_;intro w4 af r;obtain⟨x,aK⟩:=AF w3.heap.size;rw[<-aK]at r⊢;obtain⟨v0,v1⟩:=AE r;obtain⟨R,H,W4⟩:=AK (AZ R3 af) (D3.thn af) (W3.thn af);have g0:=zab af f0;have g1:=zab af f1;have g2:=zab af f2;have g3:=zab af f3;have g4:=zab af f4;have g5:=zab af f5;have n0:=zab af u0;have n1:=zab af u1;have n2:=zab af u2;have a4:=af.size;have a9:x<w4.heap.size:=Ap r;have m:=Ad (nh p _ az k t w4 (HT.e W4) aR hl aM);have aW:b<x:=qd;clear aK af r f0 f1 f2 f3 f4 f5 u0 u1 u2 R3 D3 W3
   cases B:Aq p.s k t.F with
   |some e0=>
    have HN:=Ad (show Dr vs p.s (k+1)=Dr vs p.s k by rw[U.o];simp[Dj,n,B]);rw[B]at m;simp only[Uq]at m;have aZ:((e0:Int)==-1)=false:=qf;clear n B;go_wp2_with fail;refine m.rtn λM ah=>?_;obtain⟨T,D5⟩:=An (AZ R ah) (H.thn ah);clear ah m;go_wp2;exact⟨⟨k+1,a,c,qm,qd,OG,by rw[HN.o];exact T,D5⟩,qp⟩
   |none=>
    have HN:=Ad (show Dr vs p.s (k+1)=Dr vs p.s k++[⟨k,Ct t,v.aw,v.aj⟩] by rw[U.o];simp[Dj,n,B]);rw[B]at m;simp only[Uq]at m;go_wp2_with fail;refine m.rtn λM ah=>?_;obtain⟨T,D5⟩:=An (AZ R ah) (H.thn ah);have x0:=zab ah g0;have x1:=zab ah g1;have x2:=zab ah g2;have x3:=zab ah g3;have x4:=zab ah g4;have x5:=zab ah g5;have y0:=zab ah v0;have y1:=zab ah v1;have aX:=ah.size;have aE:(Value.slice a (Dr vs p.s k).length c).ownBlock≠some b:=λe=>by have:=aL _ e;omega
    have aH:(Value.slice a (Dr vs p.s k).length c).ownBlock≠some x:=λe=>by have:=aL _ e;omega
    have aT:=Ad (λw'=>rn t w');go_wp2_with fail;refine wp_region_noPanic ?_;refine wp_region_held_drew (S:=(λw'=>w'.cell? ⟨b,0,none⟩=some (.int .i64 t.w)/\w'.cell? ⟨b,1,none⟩=some (.int .i64 t.op)/\w'.cell? ⟨b,2,none⟩=some (.string t.F)/\w'.cell? ⟨b,3,none⟩=some (.int .i64 t.val.w)/\w'.cell? ⟨b,4,none⟩=some (.int .i64 t.val.num)/\w'.cell? ⟨b,5,none⟩=some (.string t.val.O)/\w'.cell? ⟨x,0,none⟩=some (.int .i64 (v.aw:Int))/\w'.cell? ⟨x,1,none⟩=some (.int .i64 (v.aj:Int)))) qg ?_ (λhHeld=>?_)
    ·(try dsimp only);(go_split_ands;refine⟨?_,?_,?_,?_,?_,?_,?_,?_⟩<;>first|(simp[*];done))
    refine sr 0 3 ?_;refine sr 4 5 ?_;refine r1 3 λK z=>?_;go_simp;(go_at_call 208;refine(aT _).j ?_;rintro e' w6 ⟨rfl,aF⟩);(try go_wp2_with fail);refine z _ _ ?hS2 (λA=>?rest2)
    case hS2=>((try dsimp only);(go_split_ands;refine⟨?_,?_,?_,?_,?_,?_,?_,?_⟩<;>first|exact zab aF qk))
    (try simp only[pQ]);have hHeld:=A;have B6:=Ad (show Bw M w6 from(y8 M.heap.size M).drew.c (aF.j qf));obtain⟨R6,D6⟩:=An (AZ T B6) (D5.thn B6);have a5:=B6.size;have aJ:=Ad (λo'=>Au.alloc Bg o':∀o',Bw w6 (w6.alloc o'));refine sr 5 6 ?_;refine r1 6 λK z=>?_;go_simp;refine z _ _ ?hS4 (λA=>?rest4)
    case hS4=>((try dsimp only);(go_split_ands;refine⟨?_,?_,?_,?_,?_,?_,?_,?_⟩<;>first|(simp[go_sem, *];done)|exact zab Ar qk))
    (try simp only[pQ]);have hHeld:=A;refine r1 7 λK z=>?_;(refine GG qh (.tmp 32) (.tmp 38) 195 qh w0.heap.size 277 _ 4 32 underlying195 xe qh qd _ (Dr vs p.s k).length _ qh (AZ R6 (aJ _)) (some ⟨_,0,none⟩) 1 1 qh (Lz ⟨k,Ct t,v.aw,v.aj⟩) qh (λe=>qo) (CH _ _ _ _ qf) (xh _) qj qd qe ?_;intro a8 c8 w8 aP aB bd);refine z _ _ ?hS6 (λA=>?rest6)
    case hS6=>((try dsimp only);(go_split_ands;refine⟨?_,?_,?_,?_,?_,?_,?_,?_⟩<;>first|exact(Ep aB aE qe).c qk|exact(Ep aB aH qe).c qk))
    (try simp only[pQ]);have hHeld:=A;refine sr 8 9 ?_;refine wpAnyH_done qg ?_ _;refine Yb ?_;obtain⟨R8,D8,aS⟩:=AK (show w8.ownsRow w0.heap.size 277 4 (.slice a8 (Dr vs p.s (k+1)).length c8) (Dr vs p.s (k+1)).length ((Dr vs p.s (k+1)).flatMap Lz) by have:=aP.o;rw[HN.o];simpa using this) ((D6.c ((aJ _).j D6.size)).grown aB qe (λg hg=>(R6.lt g hg).1)) (show(Dr vs p.s (k+1)).length=(Dr vs p.s k).length+1 by rw[HN.o];simp);go_wp2;exact⟨⟨k+1,a8,c8,qm,qd,by rw[aS.o],R8,D8⟩,qp⟩
 have aO:k=p.s.length:=qd;subst aO;have hy:¬(p.s.length:Int)<(p.s.length:Int):=qd;go_wp2;go_ret;exact⟨⟨a,c,rfl,C4 ROW qd⟩,J⟩
def Qx(o:Option V):Value:=match o with
 |some v=>.tuple #[.agg #[.int .i64 v.w,.int .i64 v.num,.string v.O],.bool true]
 |none=>.tuple #[.agg #[.int .i64 0,.int .i64 0,.string ⟨#[]⟩],.bool false]
def SA(w:Aa)(b:Nat)(t:TypeId)(x0 x1 x2:Value):Prop:=Bk w b #[x0,x1,x2] t
def SA.J{w b t x0 x1 a}(h:SA w b t x0 x1 a):(At w b 0 x0/\At w b 1 x1/\At w b 2 a) /\
  (w.frozen? ⟨b,0,none⟩=false/\w.frozen? ⟨b,1,none⟩=false/\w.frozen? ⟨b,2,none⟩=false)/\b<w.heap.size:=by
 unfold SA at h;refine⟨⟨?_,?_,?_⟩,⟨?_,?_,?_⟩,Ap h⟩<;>simp[World.cell?,World.frozen?,h]
def pw(s a c d){q}(w)(hv:GL q w a d)(hl:d.length<=1048576) :
  Ca 238 #[.slice a d.length c,.string s] w λe w'=>e=.returned (Qx (DM d s))/\Bw w w':=by
 go_enter func238,ntmps238;go_wp2
 go_loopw [10] (λi wr=>∃(k:Nat),k<=d.length/\i=I6 k/\DM d s=DM (d.drop k) s/\SA wr w.heap.size 187 (I6 0) (I6 0) (.string ⟨#[]⟩)/\Bw w wr) (mz d.length)
 .exact⟨0,qd,rfl,rfl,heap_alloc_new _ _,Ar⟩
 obtain⟨k,D,rfl,u,y,f⟩:=hrel;obtain⟨j,HBX⟩:=An u y;obtain⟨⟨l,n,p⟩,⟨H,K,E⟩,hlt⟩:=HBX.J;by_cases r:k<d.length
 .obtain⟨x,O⟩:=Bq r;obtain⟨b,o,rfl,A,B,I,C,G⟩:=(hv.e f).get O;have m:Hid (d.drop k=x::d.drop (k+1)):=Dx O;have z:∀o,Bw w (wr.alloc o):=λo=>f.alloc f.size _;cases g:(x.F.toList==s.toList)
  .have HN:Hid (DM d s=DM (d.drop (k+1)) s):=show DM d s=_ from by
    rw[Gu]at g;have:¬x.F=s:=λh=>by subst h;simp at g
    rw[j.o,m.o,PF,if_neg this]
   have t:Hid (∀o,SA (wr.alloc o) w.heap.size 187 (I6 0) (I6 0) (.string ⟨#[]⟩)):=show∀o,SA (wr.alloc o) w.heap.size 187 (I6 0) (I6 0) (.string ⟨#[]⟩) fromλo=>((Au.alloc Bg o).block _ hlt).c HBX;go_wp2;exact⟨⟨k+1,qd,qm,HN,t _,z _⟩,qe⟩
  have HN:Hid (DM d s=some x.val):=show DM d s=_ from by
   rw[Gu]at g;have:x.F=s:=by simpa using g
   rw[j.o,m.o,PF,if_pos this]
  go_wp2;refine bodyPost_ret (v:=Qx (some x.val)) (by simp[results,results238,go_sem,l,n,p,hlt,Qx]) rfl ⟨OG,?_⟩;exact(((f.setCell qf _).setCell qf _).setCell qf _).alloc (by simp;exact f.size) _
 have HN:Hid (DM d s=none):=show DM d s=_ from by rw[j.o,yH qd];rfl
 go_wp2;refine bodyPost_ret (v:=Qx none) (by simp[results,results238,go_sem,l,n,p,Qx]) rfl ⟨OG,?_⟩;exact((f.setCell qf _).setCell qf _).setCell qf _
def FE(b:Bd):Aj:=[.string b.F,.int .i64 b.val.w,.int .i64 b.val.num,.string b.val.O]
def pe:∀S:BA,(S.flatMap FE).length=S.length*4
 |[]=>rfl
 |b::r=>by
  rw[yX,yM,pe r]
  simp[FE]
  omega
def kW(c:BA):∀x∈c.flatMap FE,x.oneCell'=true:=by
 intro x d;obtain⟨b,_,a⟩:=Yq.1 d;simp[FE]at a;rcases a with rfl|rfl|rfl|rfl<;>rfl
def vi(c:BA)(j x)(h:(c.flatMap FE)[j]?=some x):∃b,c[j/4]?=some b/\(FE b)[j%4]?=some x:=by
 induction c generalizing j with
 |nil=>simp at h
 |cons b r O=>
  have a:(FE b).length=4:=rfl;rw[yX]at h;by_cases hj:j<4
  .rw[yr qd]at h;refine⟨b,?_,?_⟩
   .rw[show j/4=0 by omega];rfl
   rwa [show j%4=j by omega]
  rw[yB qd]at h;obtain⟨u,d,e⟩:=O (j-(FE b).length) h;rw[a]at d e;refine⟨u,?_,?_⟩
  .rw[show j/4=(j-4)/4+1 by omega];exact d
  rwa [show j%4=(j-4)%4 by omega]
def GL.bO{q w c a}(h:GL q w (some c) a)(j x)(d:(a.flatMap FE)[j]?=some x):w.cell? (c.add j)=some x:=by
 obtain⟨b,e,f⟩:=vi a j x d;obtain⟨g,o,r,i,_,_,l,k⟩:=h _ b e;cases i;have O:r=FE b:=k;rw[Wu];have:=l (j%4) x (by rw[O];exact f);rw[show o+j=o+j/4*4+j%4 by omega];exact this
def GL.cZ{q w a}(h:GL q w none a):a.length=0:=by
 cases a with
 |nil=>rfl
 |cons v r=>
  obtain⟨b,o,_,c,_⟩:=h 0 v rfl;cases c
def GL.owns{w base a c S}(h:w.ownsRow base 367 4 (.slice a S.length c) S.length (S.flatMap FE)):GL none w a S:=by
 intro i s b;have key:=λj u(hj:(FE s)[j]?=some u)=>CG h (Hf (cells:=FE) (m:=4) (λ_=>rfl) S i s j u b hj);obtain⟨g,rfl,_,_,_⟩:=key 0 _ rfl;refine⟨g,0,FE s,rfl,Qb.ac _ _ _,rfl,λj v hj=>?_,rfl⟩;obtain⟨O,e,_,d,_⟩:=key j v hj;cases e;rw[Yj];exact d
def lV:(prog.info? 367).map (λi=>(i.zero,i.size,i.bytes))=some (some (.agg #[.string ⟨#[]⟩,I6 0,I6 0,.string ⟨#[]⟩]),4,48):=qg
theorem XE:(⟨#[]⟩:ByteArray).toList=[]:=qg
def V.da{v u:V}(O:v.w=u.w)(a:v.num=u.num)(b:v.O.toList=u.O.toList):v=u:=by
 have h3:(v.O.toList==u.O.toList)=true:=by rw[b];simp
 rw[Gu]at h3;exact V.same O a OM
def zn{P:Aa->Prop}{w b t x0 x1 g c a O}(e:Bk w b #[x0,x1,g] t)(h:∀wt,Bk wt b #[c,a,O] t->Turned w wt b->P wt):P (((w.setCell ⟨b,0,none⟩ c).setCell ⟨b,1,none⟩ a).setCell ⟨b,2,none⟩ O):=by
 have d:=C7 (i:=0) e c;have f:=C7 (i:=1) d a;have h3:=C7 (i:=2) f O;exact h _ OM (Turned.setCells [c,a,O] 0 w b)
def Ir(p:Pt)(f:F)(bs:BA)(w:Aa)(e:Ending)(w':Aa):Prop:=
 (match Bu p f bs with
  |none=>e=.returned (.tuple #[.slice none 0 0,.bool false])
  | some o=>∃a c,e=.returned (.tuple #[.slice a o.length c,.bool true])/\w'.ownsRow w.heap.size 367 4 (.slice a o.length c) o.length (o.flatMap FE))/\Bw w w'
def Ir.no{p f a w w'}(h:Bu p f a=none)(b:Bw w w'):Ir p f a w (.returned (.tuple #[.slice none 0 0,.bool false])) w':=by constructor<;>simp_all
def Ir.cL{p f b o w w' a c}(h:Bu p f b=some o)(e:w'.ownsRow w.heap.size 367 4 (.slice a o.length c) o.length (o.flatMap FE))(d:Bw w w'):Ir p f b w (.returned (.tuple #[.slice a o.length c,.bool true])) w':=by grind[FE,Bu,Ir]
def tV(h:P:=by go_wp2;exact⟨⟨k+1,o,a,c,by go_num,by omega,rfl,au _ aq,by omega,R2,D2⟩,by simp[intOf];omega⟩):=h
def s5(h:P:=by clear ak L3;go_wp2;exact⟨⟨k+1,o,a,c,by go_num,by omega,rfl,au _ aq,by omega,R8,D8⟩,by simp[intOf];omega⟩):=h
def sy(h:P:=by clear ak L3;go_wp2;refine bodyPost_ret (v:=.tuple #[.slice none 0 0,.bool false]) (by simp[results,results179,go_sem]) rfl ?_;exact Ir.no (am af) (H0.thn D8)):=h
def uS(h:P:=by go_enter func179,ntmps179;go_wp2;refine bodyPost_ret (v:=.tuple #[.slice none 0 0,.bool false]) (by simp[results,results179,go_sem]) rfl ?_;exact Ir.no HN (B2 _ _)):=h
def jA(h:P:=by have af:=Ad (show Er o t v=none by unfold Er;rw[if_pos ar,if_neg hne]);clear hne ar;go_wp2;refine bodyPost_ret (v:=.tuple #[.slice none 0 0,.bool false]) (by simp[results,results179,go_sem]) rfl ?_;exact Ir.no (am af) (H0.thn D2)):=h
def jB(h:P:=by have af:=Ad (show Er o t v=none by unfold Er;rw[if_neg (by omega),if_pos aj,ah];simp only;rw[if_neg hne]);clear hne aj ah;go_wp2;refine bodyPost_ret (v:=.tuple #[.slice none 0 0,.bool false]) (by simp[results,results179,go_sem]) rfl ?_;exact Ir.no (am af) (H0.thn D4)):=h
def zmX(p f b a7 bt fa fc ba bc){q q'}(w)(bk:Gs q w a7 p.s)(bm:Cj w fa f.v)(a0:GL q' w ba b)(bU:p.s.length<=6)(bN:b.length<=1000) :
  Ca 179 #[.agg #[.bool p.neg,.string p.E,.slice a7 p.s.length bt],.agg #[.int .i64 f.tag,.string f.E,.slice fa f.v.length fc],.slice ba b.length bc] w (Ir p f b w):=by
 obtain⟨HT,HF,HB⟩:=AK bk bm a0;clear bk bm a0;have B2:=Ad (λo o1=>Ar.alloc qf _:∀o o1,Bw w ((w.alloc o).alloc o1));cases U:(p.E.toList==f.E.toList)
 .have HN:=Ad (show Bu p f b=none from if_neg (λh=>by rw[h.1]at U;simp at U));have bi:(p.E.toList != f.E.toList)=true:=by rw[bne,U];rfl
  exact uS
 have bi:(p.E.toList != f.E.toList)=false:=by rw[bne,U];rfl
 cases Z:((p.s.length:Int)==(f.v.length:Int))
 .have HN:=Ad (show Bu p f b=none from if_neg (λh=>by rw[h.2]at Z;simp at Z));have bo:((p.s.length:Int) != (f.v.length:Int))=true:=by rw[bne,Z];rfl
  exact uS
 have bo:((p.s.length:Int) != (f.v.length:Int))=false:=by rw[bne,Z];rfl
 have y:p.s.length=f.v.length:=by simp at Z;omega
 have aQ:p.E=f.E:=by rw[Gu]at U;simpa using U
 obtain⟨bD,aS⟩:=An (show Bu p f b=Fr b p.s f.v from if_pos ⟨aQ,y⟩) y;clear y aQ;go_enter func179,ntmps179;go_upto_region 1 with fail;refine Ce ?_;intro w0 aN aH T;obtain⟨bP,bM,bq⟩:=Ax aH;obtain⟨bW,bO,bv⟩:=Ax T;have H0:=Ad aN;have bV:=aN.size;have bS:w.heap.size+1<w0.heap.size:=Ap T;have aW:=Ad (HB.e aN);clear aN aH T;go_upto_region 5 with(first|(at_builtin;refine Dp qh (.tmp 29) (.tmp 30) 181 qh w0.heap.size 367 _ 4 48 underlying181 lV qh qd _ 0 [] qh (yJ _ _ _ _) ba b.length bc qh (b.flatMap FE) (by rw[pe]) (λe=>GL.cZ (e▸aW.o)) (λad e=>GL.bO (e▸aW.o)) (kW _) qj qd Bg ?_;intro a1 c1 w1 a4 aE a6)|fail);have aI:Bw w0 w1:=⟨aE.os,aE.tape,aE.output,aE.size,λk hk=>aE.block k hk (λe=>qo)⟩
 have bp:=Ad (show w1.ownsRow w0.heap.size 367 4 (.slice a1 b.length c1) b.length (b.flatMap FE) by have:=a4.o;simpa using this);have bl:=zab aI bq;have aR:=Ad aI;clear a4 aE a6 U Z bi bo aI;go_wp2_with fail;clear bl
 go_loopw [35,8] (λiv ov wr=>∃(k:Nat)(o:BA)(a:Af)(c:Nat),iv=.int .i64 (k:Int)/\k<=p.s.length/\ov=.slice a o.length c/\Bu p f b=Fr o (p.s.drop k) (f.v.drop k)/\o.length<=b.length+k/\wr.ownsRow w0.heap.size 367 4 (.slice a o.length c) o.length (o.flatMap FE)/\Bw w0 wr) (λiv _ _=>p.s.length-(intOf iv).toNat)
 .exact⟨0,b,a1,c1,rfl,yn _,rfl,bD,yA _,bp,aR⟩
 obtain⟨k,o,a,c,rfl,bX,rfl,hG,bY,aT,hb⟩:=hrel;obtain⟨HG,ROW,aM,aP⟩:=BP hG aT hb (H0.thn hb);have bR:=hb.size;clear hG aT hb aR bp;by_cases hk:k<p.s.length
 .obtain⟨t,ht⟩:=Bq hk;obtain⟨v,hv⟩:∃v,f.v[k]?=some v:=⟨f.v[k]'(by have:=aS.o;omega),qf⟩
  obtain⟨HD,aU⟩:=An (Dx ht) (Dx hv);obtain⟨tb,tk,rfl,_,t0,t1,t2,t3,t4,t5⟩:=(HT.e aP).get ht;obtain⟨vb,vo,rfl,v0,v1,v2⟩:=(HF.e aP) k v hv;have bF:=zab aM bq;have bu:=zab aM bv;have a6:w.heap.size+1<wr.heap.size:=qd;have bK:=Oo v0;obtain⟨z0,z1⟩:=CZ hk;have z2:(k:Int)<(f.v.length:Int):=by have:=aS.o;omega
  obtain⟨am,au⟩:=An (λ(h:Er o t v=none)=>(show Bu p f b=none by rw[HG.o,HD.o,aU.o];exact zrl h)) (λo'(h:Er o t v=some o')=>(show Bu p f b=Fr o' (p.s.drop (k+1)) (f.v.drop (k+1)) by rw[HG.o,HD.o,aU.o];exact zqx h));clear ht hv HD aU HG;go_upto_region 9 with fail;refine Ce ?_;intro w2 aO aH T;obtain⟨k0,k1,k2,k3,k4,k5⟩:=Hw aH;obtain⟨u0,u1,u2⟩:=Ax T;obtain⟨R2,D2⟩:=An (AZ ROW aO) (aM.thn aO);have b4:=aO.size;have bQ:wr.heap.size+1<w2.heap.size:=Ap T;clear aO aH T t0 t1 t2 t3 t4 t5 v0 v1 v2 bF bu ROW aM aP;by_cases ar:t.w=1
  .have b1:(t.w==1)=true:=by simpa using ar
   by_cases q0:v.w=t.val.w;rotate_left
   .have hne:¬v=t.val:=λe=>q0 Ij;exact jA
   by_cases q1:v.num=t.val.num;rotate_left
   .have hne:¬v=t.val:=λe=>q1 Ij;exact jA
   by_cases q2:v.O.toList=t.val.O.toList;rotate_left
   .have hne:¬v=t.val:=λe=>q2 Ij;exact jA
   have aK:v=t.val:=V.da q0 q1 q2;have aq:=Ad (show Er o t v=some o by unfold Er;rw[if_pos ar,if_pos aK]);clear aK ar;exact tV
  by_cases aj:t.w=2
  .have b1:(t.w==1)=false:=by simp;omega
   have b2:(t.w==2)=true:=by simpa using aj
   have n:=Ad (pw t.F a c o w2 (GL.owns R2) qd);cases ah:DM o t.F with
   |none=>
    have aq:=Ad (show Er o t v=some (o++[⟨t.F,v⟩]) by unfold Er;rw[if_neg qd,if_pos aj,ah]);rw[ah]at n;unfold Qx at n;clear ah aj;go_wp2_with fail;refine n.rtn λN O=>?_;obtain⟨B,A⟩:=An (AZ R2 O) (D2.thn O);have aL:=zab O k2;have I:=zab O u0;have H:=zab O u1;have J:=zab O u2;have bh:=O.size;clear O n;go_upto_region 15 with fail;refine BF ?_;intro G m aJ;obtain⟨d0,d1,d2⟩:=Ax aJ;obtain⟨K,D4⟩:=An (AZ B m) (A.thn m);have b0:=zab m aL;have bH:=zab m I;have bw:=zab m H;have bA:=zab m J;have bE:=m.size;have HW:=Ad (λo'=>Au.alloc Bg o':∀o',Bw G (G.alloc o'));clear m aJ aL I H J B A;go_wp2_with (first|(at_builtin;refine Dp qh (.tmp 70) (.tmp 75) 181 qh w0.heap.size 367 _ 4 48 underlying181 lV qh qd _ o.length _ qh (AZ K (HW _)) (some ⟨_,0,none⟩) 1 1 qh (FE ⟨t.F,v⟩) qh (λe=>qo) (CH _ _ _ _ qf) (by have:=kW [⟨t.F,v⟩];simpa using this) qj qd qe ?_;intro a9 c9 w9 aX a5 bz)|fail);obtain⟨R9,D9⟩:=An (show w9.ownsRow w0.heap.size 367 4 (.slice a9 (o++[(⟨t.F,v⟩:Bd)]).length c9) (o++[(⟨t.F,v⟩:Bd)]).length ((o++[(⟨t.F,v⟩:Bd)]).flatMap FE) by have:=aX.o;simpa using this) ((D4.c ((HW _).j D4.size)).grown a5 qe (λg hg=>(K.lt g hg).1));clear aX a5 bz;go_roundw;exact⟨k+1,o++[⟨t.F,v⟩],a9,c9,qm,qd,qf,au.o _ aq.o,qe,R9.o,D9.o⟩;simp[intOf];omega
   |some old=>
    rw[ah]at n;unfold Qx at n;go_wp2_with fail;refine n.rtn λN O=>?_;obtain⟨B,A⟩:=An (AZ R2 O) (D2.thn O);have I:=zab O u0;have H:=zab O u1;have J:=zab O u2;have bh:=O.size;clear O n;go_upto_region 15 with fail;refine BF ?_;intro G m aJ;obtain⟨d0,d1,d2⟩:=Ax aJ;obtain⟨K,D4⟩:=An (AZ B m) (A.thn m);have bH:=zab m I;have bw:=zab m H;have bA:=zab m J;clear m aJ I H J B A;by_cases q0:old.w=v.w
    rotate_left
    .have hne:¬old=v:=λe=>q0 Ij;exact jB
    by_cases q1:old.num=v.num;rotate_left
    .have hne:¬old=v:=λe=>q1 Ij;exact jB
    by_cases q2:old.O.toList=v.O.toList;rotate_left
    .have hne:¬old=v:=λe=>q2 Ij;exact jB
    have aK:old=v:=V.da q0 q1 q2;have aq:=Ad (show Er o t v=some o by unfold Er;rw[if_neg qd,if_pos aj,ah];simp only;rw[if_pos aK]);clear aK aj ah;go_wp2;exact⟨⟨k+1,o,a,c,qm,qd,rfl,au _ aq,qd,K,D4⟩,qp⟩
  by_cases u:t.w=3
  .have b1:(t.w==1)=false:=by simp;omega
   have b2:(t.w==2)=false:=by simp;omega
   have b3:(t.w==3)=true:=by simpa using u
   go_upto_region 21 with fail
   refine BF ?_;intro N C aV;obtain⟨x0,x1,x2⟩:=Ax aV;have bd:=zab C k1;have aL:=zab C k2;have I:=zab C u0;have H:=zab C u1;have J:=zab C u2;obtain⟨B,A⟩:=An (AZ R2 C) (D2.thn C);have bh:=C.size;have BX:=Ad aV;clear C aV k0 k1 k2 k3 k4 k5 u0 u1 u2 R2 D2;by_cases M:t.F=⟨#[]⟩
   .have R:=Ad (show(if t.F=⟨#[]⟩ then t.val else(DM o t.F).getD P6)=t.val from if_pos M);have bI:t.F.toList.isEmpty=true:=by rw[M,XE];rfl
    have b6:(t.F.toList != [])=false:=by rw[M,XE];rfl
    clear M;cases r:Bv t.op v t.val
    .obtain⟨af,L3⟩:=An (show Er o t v=none by unfold Er;rw[if_neg qd,if_neg qd,if_pos u,R.o,if_neg (by rw[r];simp)]) (VT v t.val t.op N);rw[r]at L3;clear r u;go_wp2_with fail;refine L3.rtn λw8 ak=>?_;have D8:=Ad (A.thn ak);exact sy
    obtain⟨aq,L3⟩:=An (show Er o t v=some o by unfold Er;rw[if_neg qd,if_neg qd,if_pos u,R.o,if_pos r]) (VT v t.val t.op N);rw[r]at L3;clear r u;go_wp2_with fail;refine L3.rtn λw8 ak=>?_;obtain⟨R8,D8⟩:=An (AZ B ak) (A.thn ak);exact s5
   have R:=Ad (show(if t.F=⟨#[]⟩ then t.val else(DM o t.F).getD P6)=(DM o t.F).getD P6 from if_neg M);have bI:t.F.toList.isEmpty=false:=by cases h:t.F.toList.isEmpty;rfl;exact absurd (by have h2:(t.F.toList==(⟨#[]⟩:ByteArray).toList)=true:=(by rw[List.isEmpty_iff.1 h,XE];rfl);rw[Gu]at h2;simpa using h2) M
   clear M;have n:=Ad (pw t.F a c o N (GL.owns B) qd);obtain⟨wv,W⟩:=AF ((DM o t.F).getD P6);replace R:=Ad (R.c W.z);have aY:=Ad (show∃fl:Bool,Ca 238 #[.slice a o.length c,.string t.F] N λe w'=>e=.returned (.tuple #[.agg #[.int .i64 wv.w,.int .i64 wv.num,.string wv.O],.bool fl])/\Bw N w' by cases ah:DM o t.F with|none=>(rw[ah]at W n;subst W;exact⟨false,n⟩)|some x=>(rw[ah]at W n;subst W;exact⟨true,n⟩));obtain⟨fl,bg⟩:=aY.o;have aZ:=Ad bg;clear n aY bg W;go_wp2_with fail;refine aZ.rtn λG D=>?_;have aG:=Ad ((D.block _ (Ap BX)).c BX);obtain⟨y0,y1,y2⟩:=Ax aG;have zf:=Ad (λj=>(show G.frozen? ⟨w2.heap.size,j,none⟩=false by simp[World.frozen?,aG.o]));have bG:=zf 0;have bB:=zf 1;have bJ:=zf 2;have bj:=zab D bd;have bf:=zab D I;have a8:=zab D H;have br:=zab D J;obtain⟨K,D4⟩:=An (AZ B D) (A.thn D);have bE:=D.size;clear D aZ bd aL I H J x0 x1 x2 B A;go_upto_region 23 with fail;refine zn aG ?_;intro Y bn L;obtain⟨x0,x1,x2⟩:=Ax bn;obtain⟨R5,D5⟩:=An (Ci K λg hg=>L.block g (λe=>by obtain⟨d,hd⟩:=A7 K hg;subst e;exact Cw aG hd qi)) (D4.c (L.e qd));have bT:Y.cell? ⟨wr.heap.size,1,none⟩=some (.int .i64 t.op):=(yP (w:=G) (L.block (wr.heap.size) qd)).c bj;have bL:Y.cell? ⟨wr.heap.size+1,0,none⟩=some (.int .i64 v.w):=(yP (w:=G) (L.block (wr.heap.size+1) qd)).c bf;have bZ:Y.cell? ⟨wr.heap.size+1,1,none⟩=some (.int .i64 v.num):=(yP (w:=G) (L.block (wr.heap.size+1) qd)).c a8;have b5:Y.cell? ⟨wr.heap.size+1,2,none⟩=some (.string v.O):=(yP (w:=G) (L.block (wr.heap.size+1) qd)).c br;clear bn L bj bf a8 br y0 y1 y2 zf bG bB bJ K D4 aG BX
   cases r:Bv t.op v wv
   .obtain⟨af,L3⟩:=An (show Er o t v=none by unfold Er;rw[if_neg qd,if_neg qd,if_pos u,R.o,if_neg (by rw[r];simp)]) (VT v wv t.op Y);rw[r]at L3;clear r u;go_wp2_with fail;refine L3.rtn λw8 ak=>?_;have D8:=Ad (D5.thn ak);exact sy
   obtain⟨aq,L3⟩:=An (show Er o t v=some o by unfold Er;rw[if_neg qd,if_neg qd,if_pos u,R.o,if_pos r]) (VT v wv t.op Y);rw[r]at L3;clear r u;go_wp2_with fail;refine L3.rtn λw8 ak=>?_;obtain⟨R8,D8⟩:=An (AZ R5 ak) (D5.thn ak);exact s5
  have b1:(t.w==1)=false:=by simpa using ar
  have b2:(t.w==2)=false:=by simpa using aj
  have b3:(t.w==3)=false:=by simpa using u
  have aq:=Ad (show Er o t v=some o by unfold Er;rw[if_neg ar,if_neg aj,if_neg u]);exact tV
 have bC:k=p.s.length:=qd;subst bC;have hy:¬(p.s.length:Int)<(p.s.length:Int):=qd;have HR:=Ad (show Bu p f b=some o by rw[HG.o,yH Bg];rfl);go_wp2;refine bodyPost_ret (v:=.tuple #[.slice a o.length c,.bool true]) (by simp[results,results179,go_sem]) rfl ?_;exact Ir.cL HR (C4 ROW H0.size) aP
def Qd(h:P:=by refine r1 5 λK hK=>?_;go_simp;(go_at_call 106;refine(hIs _ _ ?_).j ?_;(first|exact x7 _ _ _ (by simp)|exact xO _ _ _ _ (by simp));rintro e' w' ⟨rfl,rfl⟩);(try go_wp2_with fail);refine hK _ _ (by((try dsimp only);(go_split_ands;refine⟨?_,?_,?_,?_,?_,?_,?_,?_⟩<;>first|(simp[go_sem];done)|exact zab hb' (by assumption)))) λhHeld=>?_;clear hK K;(try simp only[pQ]);refine sr 6 40 ?_;first|(refine r1 15 λK hK=>?_;go_simp;(go_at_call 267;refine(hZ _).j ?_;rintro e' w' ⟨rfl,hb'⟩);(try go_wp2_with fail);refine hK _ _ (by((try dsimp only);(go_split_ands;refine⟨?_,?_,?_,?_,?_,?_,?_,?_⟩<;>first|(simp[go_sem];done)|exact zab hb' (by assumption)))) λhHeld=>?_;clear hK K;(try simp only[pQ]);refine sr 16 40 ?_;refine wpAnyH_done (by kernel_rfl) ?_ _;refine Yb ?_;first|(go_wp2;go_ret;first|exact⟨rfl,B3 _ _ _⟩|exact⟨rfl,(B3 _ _ _).c (hb'.j (by simp;omega))⟩)|(obtain⟨y0,y1,y2,y3,y4,y5,y6,y7⟩:=hHeld;have O:Bw w w':=(B3 _ _ _).c (hb'.j (by simp;omega));have hE:=Ad (hv0.e O);clear hb' hv0;go_wp2;go_quiet (first|(go_at_call 236;refine Y5 (hF _ (hE.e ?_));exact GH Au)|(go_at_call 269;refine Y5 (hDp _ (hE.e ?_));exact GH Au));go_wp2;go_ret;first|exact⟨rfl,GH O⟩|exact⟨Ba (by simp;omega),GH O⟩))|(refine wpAnyH_done (by kernel_rfl) ?_ _;refine Yb ?_;first|(go_wp2;go_ret;first|exact⟨rfl,B3 _ _ _⟩|exact⟨rfl,(B3 _ _ _).c (hb'.j (by simp;omega))⟩)|(obtain⟨y0,y1,y2,y3,y4,y5,y6,y7⟩:=hHeld;have O:Bw w w':=(B3 _ _ _).c (hb'.j (by simp;omega));have hE:=Ad (hv0.e O);clear hb' hv0;go_wp2;go_quiet (first|(go_at_call 236;refine Y5 (hF _ (hE.e ?_));exact GH Au)|(go_at_call 269;refine Y5 (hDp _ (hE.e ?_));exact GH Au));go_wp2;go_ret;first|exact⟨rfl,GH O⟩|exact⟨Ba (by simp;omega),GH O⟩))):=h
def MQ(h:P:=by go_enter func234,ntmps234;go_wp2;clear c0 c1 c2 c3 c4 c5 c6 c7 he h1;(try clear h2);(try clear h3);refine wp_region_noPanic ?_;refine wp_region_held_drew (S:=(λw'=>At w' w.heap.size 0 (I6 2)/\At w' w.heap.size 1 (.int .u8 e.op)/\At w' w.heap.size 2 (.string e.F)/\At w' w.heap.size 3 (I6 e.val.w)/\At w' w.heap.size 4 (I6 e.val.num)/\At w' w.heap.size 5 (.string e.val.O)/\At w' w.heap.size 6 (I6 e.a)/\At w' w.heap.size 7 (I6 e.b))) (by kernel_rfl) (by((try dsimp only);(go_split_ands;refine⟨?_,?_,?_,?_,?_,?_,?_,?_⟩<;>first|(simp[go_sem];done)|exact zab hb' (by assumption)))) (λhHeld=>?_);refine sr 0 2 ?_;refine r2 2 4 (λK hK=>?_) λK hK=>?_;(go_simp;refine hK _ _ (by((try dsimp only);(go_split_ands;refine⟨?_,?_,?_,?_,?_,?_,?_,?_⟩<;>first|(simp[go_sem];done)|exact zab hb' (by assumption)))) λhHeld=>?_;clear hK K;(try simp only[pQ]);refine r2 3 4 (λK hK=>?_) λK hK=>?_;(go_simp;refine hK _ _ (by((try dsimp only);(go_split_ands;refine⟨?_,?_,?_,?_,?_,?_,?_,?_⟩<;>first|(simp[go_sem];done)|exact zab hb' (by assumption)))) λhHeld=>?_;clear hK K;(try simp only[pQ]);refine r1 4 λK hK=>?_;go_simp;(go_at_call 268;refine(gw _).j ?_;rintro O w' ⟨rfl,rfl⟩);(try go_wp2_with fail);refine hK _ _ (by((try dsimp only);(go_split_ands;refine⟨?_,?_,?_,?_,?_,?_,?_,?_⟩<;>first|(simp[go_sem];done)|exact zab hb' (by assumption)))) λhHeld=>?_;clear hK K;(try simp only[pQ]);exact Qd);go_simp;(go_at_call 268;refine(gw _).j ?_;rintro O w' ⟨rfl,rfl⟩);(try go_wp2_with fail);refine hK _ _ (by((try dsimp only);(go_split_ands;refine⟨?_,?_,?_,?_,?_,?_,?_,?_⟩<;>first|(simp[go_sem];done)|exact zab hb' (by assumption)))) λhHeld=>?_;clear hK K;(try simp only[pQ]);refine r1 3 λK hK=>?_;go_simp;refine hK _ _ (by((try dsimp only);(go_split_ands;refine⟨?_,?_,?_,?_,?_,?_,?_,?_⟩<;>first|(simp[go_sem];done)|exact zab hb' (by assumption)))) λhHeld=>?_;clear hK K;(try simp only[pQ]);exact Qd);go_simp;(go_at_call 268;refine(gw _).j ?_;rintro O w' ⟨rfl,rfl⟩);(try go_wp2_with fail);refine hK _ _ (by((try dsimp only);(go_split_ands;refine⟨?_,?_,?_,?_,?_,?_,?_,?_⟩<;>first|(simp[go_sem];done)|exact zab hb' (by assumption)))) λhHeld=>?_;clear hK K;(try simp only[pQ]);refine r1 2 λK hK=>?_;go_simp;refine hK _ _ (by((try dsimp only);(go_split_ands;refine⟨?_,?_,?_,?_,?_,?_,?_,?_⟩<;>first|(simp[go_sem];done)|exact zab hb' (by assumption)))) λhHeld=>?_;clear hK K;(try simp only[pQ]);refine r1 3 λK hK=>?_;go_simp;refine hK _ _ (by((try dsimp only);(go_split_ands;refine⟨?_,?_,?_,?_,?_,?_,?_,?_⟩<;>first|(simp[go_sem];done)|exact zab hb' (by assumption)))) λhHeld=>?_;clear hK K;(try simp only[pQ]);exact Qd):=h
def Em(w:Aa)(pb:Nat)(v0 v1:Value):Prop:=Bk w pb #[v0,v1] 102
def Em.J{w b a v1}(h:Em w b a v1):(At w b 0 a/\At w b 1 v1)/\(∀j,w.frozen? ⟨b,j,none⟩=false)/\b<w.heap.size:=by
 unfold Em at h;exact⟨AE h,λj=>by simp[World.frozen?,h],Ap h⟩
def Em.db{w b a v1}(h:Em w b a v1)(x):Em (w.setCell ⟨b,1,none⟩ x) b a x:=by
 have:=C7 (i:=1) h x;simpa[Em] using this
def Em.C{w w' b a v1}(h:Em w b a v1)(d:Bw w w'):Em w' b a v1:=(d.block b (Ap h)).c h
structure Fp(pb:Nat) (row:AD) (w w':Aa):Prop where
 rest:Below 0 w w'
 block:∀k,k<w.heap.size->k≠pb->row≠some k->w'.heap[k]?=w.heap[k]?
def Fp.refl(pb row w):Fp pb row w w:=⟨Au,λ_ _ _ _=>rfl⟩
def Fp.C{pb row u w w'}(h:Fp pb row u w)(a:Bw w w'):Fp pb row u w':=⟨h.rest.c (a.j (yn _)),λk b d e=>(a.block k (yg b h.rest.size)).c (h.block k b d e)⟩
def kY:(prog.info? 330).map (λi=>(i.zero,i.size,i.bytes))=some (some (.agg #[.string ⟨#[]⟩,I6 0,I6 0]),3,32):=qg
def kO(v):∀u∈Ja v,u.oneCell'=true:=by
 intro u hu;simp[Ja]at hu;rcases hu with rfl|rfl|rfl<;>rfl
def LL.owns{w base a c vs}(h:w.ownsRow base 330 3 (.slice a vs.length c) vs.length (vs.flatMap Ja)):LL w a vs:=by
 intro i v d;have key:=λj u(hj:(Ja v)[j]?=some u)=>CG h (Hf (cells:=Ja) (m:=3) (λ_=>rfl) vs i v j u d hj);obtain⟨k,rfl,_,O,_⟩:=key 0 _ rfl;obtain⟨g,e,_,h1,_⟩:=key 1 _ rfl;obtain⟨f,b,_,h2,_⟩:=key 2 _ rfl;cases e;cases b;exact⟨k,0,rfl,OJ,qx,qw⟩
def Dw(vs:AY)(ts:A3)(n:Nat):Nat->AY
 |0=>vs
 |i+1=>(match ts[i]? with|none=>Dw vs ts n i|some t=>if t.w=2/\Cv (Dw vs ts n i) t.F=none then Dw vs ts n i++[⟨t.F,n,i⟩] else Dw vs ts n i)
def VX{vs ts n i t}(h:ts[i]?=some t):Dw vs ts n (i+1)=if t.w=2/\Cv (Dw vs ts n i) t.F=none then Dw vs ts n i++[⟨t.F,n,i⟩] else Dw vs ts n i:=by simp[Dw,h]
def VY(vs ts n):∀i,(Dw vs ts n i).length<=vs.length+i
 |0=>yA _
 |i+1=>by
  have a:=VY vs ts n i
  simp only[Dw]
  cases ts[i]? with
  |none=>simp only;omega
  |some t=>
   simp only
   split
   .simp;omega
   omega
def Fp.step{pb row O u wr f b a x}(h:Fp pb row u wr)(t:∀g,O=some g->row=some g∨u.heap.size<=g)(i:Bw wr f)(d:Bw f b)(s:b.grownBy a O):Fp pb row u (a.setCell ⟨pb,1,none⟩ x):=by
 have q:Turned a (a.setCell ⟨pb,1,none⟩ x) pb:=Turned.setCells [x] 1 a pb;refine⟨((((h.rest.c (i.j (yn _))).c (d.j (yn _))).grown s (yn _) (λ_ _=>yn _)).c (q.e (yn _))),λk l m n=>?_⟩;have r:k<wr.heap.size:=yg l h.rest.size;have o:k<f.heap.size:=yg r i.size;have v:k<b.heap.size:=yg o d.size;rw[q.block k m,s.block k v (λe=>by rcases t k e.z with p|p;exact n p;omega),d.block k o,i.block k r];exact h.block k l m n
def tl(h:P:=by
 rw[am]at ak;unfold MN at ak;go_wp2_with fail;refine ak.rtn λw3 af=>?_;have D3:=Ad (D2.thn af);have f0:=zab af d0;have f2:=zab af d2;have aF:=af.size;go_upto_region 5 with fail;refine BF ?_;intro w4 ah az;have D4:=Ad (D3.thn ah);have g0:=zab ah f0;have g2:=zab ah f2;have aE:=ah.size;go_wp2;exact⟨⟨k+1,ai,aj,U,by go_num,by omega,HN,PR.C D4,AZ OR D4,ax.C D4,aw,by have:=D4.size;omega,AR.thn D4⟩,by simp;omega⟩
 ):=h
def sL(pb n:Nat)(p:Pt)(aJ aU f m vs N B){q}(I w)(hA:Bw I w)(aO:Gs q I aJ p.s)(hP:Em w pb N (.slice f vs.length m))(hO:w.ownsRow B 330 3 (.slice f vs.length m) vs.length (vs.flatMap Ja))(aZ:I.heap.size<=B)(aV:I.heap.size<=pb)(hB:B<=w.heap.size)(hl:p.s.length<=1000)(a9:vs.length<=1000) :
  Ca 151 #[.pointer (some ⟨pb,0,none⟩),.agg #[.bool p.neg,.string p.E,.slice aJ p.s.length aU],.int .i64 (n:Int)] w λe w'=>e=.returned (.tuple #[])/\(∃ai aj,Em w' pb N (.slice ai (Dw vs p.s n p.s.length).length aj)/\w'.ownsRow B 330 3 (.slice ai (Dw vs p.s n p.s.length).length aj) (Dw vs p.s n p.s.length).length ((Dw vs p.s n p.s.length).flatMap Ja)/\(∀g,(Value.slice ai (Dw vs p.s n p.s.length).length aj).ownBlock=some g->(Value.slice f vs.length m).ownBlock=some g∨w.heap.size<=g))/\Fp pb (Value.slice f vs.length m).ownBlock w w'/\Bw I w':=by
 obtain⟨HT,aR,aK,aT⟩:=BP aO hA hP hO;have aa:=Ap hP;clear aO hA hP hO;go_enter func151,ntmps151;go_upto_region 1 with fail;refine BF ?_;intro w0 D aI;obtain⟨b0,b1,b2⟩:=Ax aI;obtain⟨H0,P0,O0,F0,A0⟩:=Ei D (aK.C D) (AZ aT D) ((Fp.refl pb (Value.slice f vs.length m).ownBlock w).C D) (aR.thn D);have a0:=D.size;clear D aI aK aT aR;go_wp2_with fail;clear b0 b1 b2
 go_loopw [13] (λiv wr=>∃(k:Nat)(ai:Af)(aj:Nat)(U:AY),iv=.int .i64 (k:Int)/\k<=p.s.length/\Dw vs p.s n k=U/\Em wr pb N (.slice ai U.length aj)/\wr.ownsRow B 330 3 (.slice ai U.length aj) U.length (U.flatMap Ja)/\Fp pb (Value.slice f vs.length m).ownBlock w wr/\(∀g,(Value.slice ai U.length aj).ownBlock=some g->(Value.slice f vs.length m).ownBlock=some g∨w.heap.size<=g)/\w.heap.size<=wr.heap.size/\Bw I wr) (mz p.s.length)
 .exact⟨0,f,m,vs,rfl,yn _,rfl,P0,O0,F0,λg d=>.inl d,a0,A0⟩
 obtain⟨k,ai,aj,U,rfl,bg,hU,aG,aL,aP,aS,bf,aN⟩:=hrel;obtain⟨HU,PR,OR,ax,aw,AR⟩:=Ma hU aG aL aP aS aN;have bh:U.length<=2000:=by
  have:=VY vs p.s n k;rw[hU]at this;omega
 have a6:=Ap aG;clear hU aG aL aP aS aN P0 O0 F0 A0;by_cases hk:k<p.s.length
 .obtain⟨t,ht⟩:=Bq hk;obtain⟨mb,mo,rfl,_,c0,c1,c2,c3,c4,c5⟩:=(HT.e AR).get ht;have Y:=Ad (VX (vs:=vs) (n:=n) ht);rw[HU.o]at Y;obtain⟨z0,z1⟩:=CZ hk;clear ht;go_upto_region 4 with fail;refine BF ?_;intro w2 R Z;obtain⟨G,T⟩:=AF wr.heap.size;rw[<-T]at Z⊢;obtain⟨d0,d1,d2,d3,d4,d5⟩:=Hw Z;have D2:=Ad R;have bi:=R.size;have bd:G<w2.heap.size:=Ap Z;have a5:pb<G:=qd;have aY:=Ad (λg(d:(Value.slice ai U.length aj).ownBlock=some g)=>(show g<G by have:=(OR.lt g d).2;omega));have aD:(Value.slice ai U.length aj).ownBlock≠some pb:=λe=>by
   obtain⟨cc,aW⟩:=A7 OR e;exact Cw aW PR qi
  have ak:=Ad (nY pb t.F ai aj U w2 (PR.C R).J.1.2 (LL.owns (AZ OR R)) qd);clear R Z c0 c1 c2 c3 c4 c5 T;by_cases H:t.w=2
  .have a4:(t.w==2)=true:=by simpa using H
   cases am:Cv U t.F with
   |some x=>
    have HN:=Ad (show Dw vs p.s n (k+1)=U by rw[Y.o,if_neg (by rw[am];simp)]);rw[am]at ak;unfold MN at ak;clear am H;go_wp2_with fail;refine ak.rtn λw3 af=>?_;have D3:=Ad (D2.thn af);have f0:=zab af d0;have f2:=zab af d2;have aF:=af.size;clear af ak d0 d1 d2 d3 d4 d5 D2;go_upto_region 5 with fail;refine BF ?_;intro w4 ah az;have D4:=Ad (D3.thn ah);have g0:=zab ah f0;have g2:=zab ah f2;have aE:=ah.size;clear ah az f0 f2 D3;go_wp2;exact⟨⟨k+1,ai,aj,U,qm,qd,HN,PR.C D4,AZ OR D4,ax.C D4,aw,by have:=D4.size;omega,AR.thn D4⟩,qe⟩
   |none=>
    have HN:=Ad (show Dw vs p.s n (k+1)=U++[⟨t.F,n,k⟩] by rw[Y.o,if_pos ⟨H,am⟩]);rw[am]at ak;unfold MN at ak;clear am H;go_wp2_with fail;refine ak.rtn λw3 af=>?_;have D3:=Ad (D2.thn af);have f0:=zab af d0;have f2:=zab af d2;have aF:=af.size;clear af ak d0 d1 d2 d3 d4 d5 D2;go_upto_region 5 with fail;refine BF ?_;intro w4 ah az;have D4:=Ad (D3.thn ah);have g0:=zab ah f0;have g2:=zab ah f2;have aE:=ah.size;clear ah az f0 f2 D3;obtain⟨W,R4,A,A4⟩:=BP (PR.C D4) (AZ OR D4) (λo'=>(y8 w4.heap.size w4).drew.alloc qf o':∀o',Bw w4 (w4.drew.alloc o')) (AR.thn D4);have q1:w4.cell? ⟨pb,1,none⟩=some (.slice ai U.length aj):=W.J.1.2;have q5:∀o,(w4.drew.alloc o).cell? ⟨pb,1,none⟩=some (.slice ai U.length aj):=λo=>(W.C (A o)).J.1.2;have aC:(Value.slice ai U.length aj).ownBlock≠some G:=λe=>by have:=aY _ e;omega
    have bc:G≠pb:=qd;have bj:pb<w4.heap.size:=qd;have a7:B<=w4.heap.size:=qd;go_wp2_with fail;refine wp_region_noPanic ?_;refine wp_region_held_drew (S:=(λw'=>w'.cell? ⟨G,2,none⟩=some (.string t.F))) qg ?_ (λhHeld=>?_)
    ·(try dsimp only);(first|(simp[*];done)|assumption)
    refine sr 0 4 ?_;refine sr 5 11 ?_;refine r2 4 11 (λK b=>?_) λK b=>?_
    focus
     go_simp;refine b _ _ ?hS3 (λO=>?rest3)
     case hS3=>((try dsimp only);(first|(simp[*];done)|assumption))
     clear b K;(try simp only[pQ]);clear hHeld;have hHeld:=O;clear O;refine r1 11 λK b=>?_;go_simp;refine b _ _ ?hS5 (λO=>?rest5)
     case hS5=>((try dsimp only);(first|(simp[go_sem, *];done)|exact zab Ar qk))
     clear b K;(try simp only[pQ]);clear hHeld;have hHeld:=O;clear O;refine r1 12 λK b=>?_;(refine GG qh (.tmp 36) (.tmp 43) 100 qh B 330 _ 3 32 underlying100 kY qh qd _ U.length _ qh (AZ R4 (A _)) (some ⟨_,0,none⟩) 1 1 qh (Ja ⟨t.F,n,k⟩) qh (λe=>qo) (CH _ _ _ _ qf) (kO _) qj qd qe ?_;intro u r w8 aM y aQ;have M:=Ad (show Em w8 pb N (.slice ai U.length aj) from(y.block pb qe (λe=>aD e.z)).c (((A _).block pb qd).c W));obtain⟨⟨_,m1⟩,L,_⟩:=M.J;have z1:=L 1;clear L);refine b _ _ ?hS7 (λO=>?rest7)
     case hS7=>((try dsimp only);(first|exact(Ep y aC qe).c qk))
     clear b K;(try simp only[pQ]);clear hHeld;have hHeld:=O;clear O;refine sr 13 15 ?_;refine r1 15 λK b=>?_;go_simp;refine b _ _ ?hS9 (λO=>?rest9)
     case hS9=>((try dsimp only);(first|(simp[go_sem, *];done)))
     clear b K
    rotate_left
    focus
     go_simp;refine b _ _ ?hS10 (λO=>?rest10)
     case hS10=>((try dsimp only);(first|(simp[go_sem, *];done)|exact zab Ar qk))
     (try simp only[pQ]);have hHeld:=O;refine r1 4 λK b=>?_;go_simp;refine b _ _ ?hS12 (λO=>?rest12)
     case hS12=>((try dsimp only);(first|assumption))
     (try simp only[pQ]);have hHeld:=O;refine r1 12 λK b=>?_;(refine GG qh (.tmp 36) (.tmp 43) 100 qh B 330 _ 3 32 underlying100 kY qh qd _ U.length _ qh (AZ R4 (A _)) (some ⟨_,0,none⟩) 1 1 qh (Ja ⟨t.F,n,k⟩) qh (λe=>qo) (CH _ _ _ _ qf) (kO _) qj qd qe ?_;intro u r w8 aM y aQ;have M:=Ad (show Em w8 pb N (.slice ai U.length aj) from(y.block pb qe (λe=>aD e.z)).c (((A _).block pb qd).c W));obtain⟨⟨_,m1⟩,L,_⟩:=M.J;have z1:=L 1;clear L);refine b _ _ ?hS14 (λO=>?rest14)
     case hS14=>((try dsimp only);(first|exact(Ep y aC qe).c qk))
     (try simp only[pQ]);have hHeld:=O;refine sr 13 15 ?_;refine r1 15 λK b=>?_;go_simp;refine b _ _ ?hS16 (λO=>?rest16)
     case hS16=>((try dsimp only);(first|(simp[go_sem, *];done)))
    rotate_left
    all_goals
     (try simp only[pQ]);have hHeld:=O;refine wpAnyH_done qg ?_ _;refine Yb ?_;obtain⟨R8,P9⟩:=An (show w8.ownsRow B 330 3 (.slice u (U.length+1) r) (U.length+1) ((U++[(⟨t.F,n,k⟩:Vr)]).flatMap Ja) by have:=aM.o;simpa using this) (M.db (.slice u (U.length+1) r));obtain⟨R9,F9,aH,A9⟩:=BP (Is (o:=1) (x:=.slice u (U.length+1) r) R8 M qi) (Fp.step (x:=.slice u (U.length+1) r) ax aw D4 (A _) y) (show∀g,(Value.slice u (U.length+1) r).ownBlock=some g->(Value.slice f vs.length m).ownBlock=some g∨w.heap.size<=g by intro g d;rcases aQ.o with h|h;exact aw g (by rw[<-h];exact d);right;rw[h]at d;injection d with d;simp at d;omega) ((((A4.c ((A _).j A4.size)).grown y (by have:=A4.size;simp;omega) (λg d=>yi aZ (R4.lt g d).1)).setCell (p:=⟨pb,1,none⟩) aV (.slice u (U.length+1) r)));go_wp2;exact⟨⟨k+1,u,r,U++[⟨t.F,n,k⟩],qm,qd,OG,by simpa using P9.o,by simpa using R9.o,F9,by simpa using aH.o,by have:=F9.rest.size;omega,A9⟩,qe⟩
  have a4:(t.w==2)=false:=by simpa using H
  have HN:=Ad (show Dw vs p.s n (k+1)=U by rw[Y.o,if_neg (λh=>H h.1)]);cases am:Cv U t.F with
  |some x=>
   exact tl
  |none=>
   exact tl
 have aX:k=p.s.length:=qd;subst aX;have hy:¬(p.s.length:Int)<(p.s.length:Int):=qd;go_wp2_with fail;go_end0;refine⟨rfl,?_,ax,AR⟩;rw[HU.o];exact⟨ai,aj,PR,OR,aw⟩
def Le(fn first cap w):(Instr.makeFunc fn first cap).run prog w=.ok (.func fn first cap) w:=rfl
def Mv(w:Aa)(a:Af)(fs:Ab):Prop:=∀(i:Nat)(f:F),fs[i]?=some f->∃b o pv,a=some ⟨b,o,none⟩/\w.cell? ⟨b,o+i,none⟩=some pv/\DJ w pv f
theorem Mv.e{w w' a fs}(h:Mv w a fs)(c:Bw w w'):Mv w' a fs:=by
 intro i f d;obtain⟨b,o,pv,e,g,j⟩:=h i f d;exact⟨b,o,pv,e,zab c g,j.e c⟩
structure Pf(w:Aa) (cb tb:Nat) (ng ct nd p0 p1 p2:Value) (ta:Af) (n tc:Nat):Prop where
 c0:w.cell? ⟨cb,0,none⟩=some ng
 c1:w.cell? ⟨cb,1,none⟩=some ct
 c2:w.cell? ⟨cb,2,none⟩=some nd
 c3:w.cell? ⟨cb,3,none⟩=some (.slice ta n tc)
 t0:w.cell? ⟨tb,0,none⟩=some p0
 t1:w.cell? ⟨tb,1,none⟩=some p1
 t2:w.cell? ⟨tb,2,none⟩=some p2
theorem Pf.e{w w' cb k d c b j l i f n g}(h:Pf w cb k d c b j l i f n g)(a:Bw w w'):Pf w' cb k d c b j l i f n g:=
 ⟨zab a h.c0,zab a h.c1,zab a h.c2,zab a h.c3,zab a h.t0,zab a h.t1,zab a h.t2⟩
def zlW(cb k n m l b i g c ts d j T f w)(p:Pf w cb k n m l b i g d ts.length j)(s:EJ w d ts)(o:E_ w b i g T)(r:DJ w c f)(hl:ts.length<=1048576)(a:∀t∈ts,t.ah T f) :
  Ca 172 #[c,Pn cb,Pn k] w λe w'=>e=.returned (.bool (ts.all (AA T f)))/\Bw w w':=by
 have q:=Ad (PQ n m l b i g c ts d j T f w s o r hl a);obtain⟨x,v,z,C,y,B,t2⟩:=p;go_enter func172,ntmps172;go_wp2_with fail;refine q.rtn λA O=>?_;have u:=Ad O;go_wp2;go_ret;exact⟨rfl,u⟩
def zju(cb r H C G p u l ts s A T fs fa fc w)(x:Pf w cb r H C G p u l s ts.length A)(z:EJ w s ts)(D:E_ w p u l T)(y:Mv w fa fs)(hl:ts.length<=1048576)(ar:fs.length<=1048576)(a:∀f∈fs,∀t∈ts,t.ah T f) :
  Ca 237 #[.slice fa fs.length fc,.func (.func 172) #[] #[.pointer (some ⟨cb,0,none⟩),.pointer (some ⟨r,0,none⟩)]] w λe w'=>(∃n:Int,e=.returned (.int .i64 n)/\decide (0<=n)=fs.any (λf=>ts.all (AA T f)))/\Bw w w':=by
 obtain⟨R,L,W,U,J⟩:=Ei x z D y a;clear x z D y a;go_enter func237,ntmps237;go_wp2
 go_loopw [8] (λiv wr=>∃(k:Nat),iv=.int .i64 (k:Int)/\k<=fs.length/\fs.any (λf=>ts.all (AA T f))=(fs.drop k).any (λf=>ts.all (AA T f))/\Bw w wr) (mz fs.length)
 .exact⟨0,rfl,yn _,rfl,Au⟩
 obtain⟨k,rfl,aq,E,v⟩:=hrel;obtain⟨m,O⟩:=An E v;clear E v;by_cases B:k<fs.length
 .obtain⟨f,d⟩:=Bq B;obtain⟨fb,Y,pv,rfl,Z,I⟩:=(U.e O) k f d;obtain⟨i,g⟩:=An (show fs.any (λf=>ts.all (AA T f))=(ts.all (AA T f)||(fs.drop (k+1)).any (λf=>ts.all (AA T f))) by rw[m.o,Dx d,List.any_cons]) (zlW cb r H C G p u l pv ts s A T f wr (R.e O) (L.e O) (W.e O) I hl (J f (yd d)));obtain⟨K,z1⟩:=CZ B;clear d I m;cases c:ts.all (AA T f)
  .have b:=Ad (show fs.any (λf=>ts.all (AA T f))=(fs.drop (k+1)).any (λf=>ts.all (AA T f)) by rw[i.o,c];rfl);rw[c]at g;clear c i;go_wp2_with fail;refine g.rtn λM j=>?_;have q:=Ad (O.thn j);go_wp2;exact⟨⟨k+1,qm,qd,b,q⟩,qe⟩
  have b:=Ad (show fs.any (λf=>ts.all (AA T f))=true by rw[i.o,c];rfl);rw[c]at g;go_wp2_with fail;refine g.rtn λM j=>?_;have q:=Ad (O.thn j);go_wp2;go_ret;exact⟨⟨k,rfl,by rw[b.o];exact decide_eq_true K⟩,q⟩
 have N:k=fs.length:=qd;subst N;have b:=Ad (show fs.any (λf=>ts.all (AA T f))=false by rw[m.o,yH Bg];rfl);have hy:¬(fs.length:Int)<(fs.length:Int):=qd;go_wp2;go_ret;exact⟨⟨-1,rfl,by rw[b.o];rfl⟩,O⟩
def zgP(cb c r q p b i g ts d l T fs fa fc w)(o:Pf w cb c r q p b i g d ts.length l)(v:EJ w d ts)(k:E_ w b i g T)(u:Mv w fa fs)(hl:ts.length<=1048576)(y:fs.length<=1048576)(a:∀f∈fs,∀t∈ts,t.ah T f) :
  Ca 171 #[.slice fa fs.length fc,.func (.func 172) #[] #[Pn cb,Pn c]] w λe w'=>e=.returned (.bool (fs.any (λf=>ts.all (AA T f))))/\Bw w w':=by
 have m:=Ad (zju cb c r q p b i g ts d l T fs fa fc w o v k u hl y a);clear o v k u a;go_enter func171,ntmps171;go_wp2_with fail;refine m.j ?_;rintro e A ⟨⟨n,rfl,s⟩,O⟩;obtain⟨z,x⟩:=An O s;clear m O s;go_wp2;go_ret;exact⟨Ba x,z⟩
def zoJ(k j c g b nb ts d i T fs fa fc w)(u:At w nb 4 (.slice fa fs.length fc))(y:EJ w d ts)(B:E_ w c g b T)(s:Mv w fa fs)(hl:ts.length<=1048576)(E:fs.length<=1048576)(a:∀f∈fs,∀t∈ts,t.ah T f) :
  Ca 111 #[.agg #[k,j,Pn nb,.slice d ts.length i],.agg #[c,g,b]] w λe w'=>e=.returned (.bool (fs.any (λf=>ts.all (AA T f))))/\Bw w w':=by
 obtain⟨p,H,G,J⟩:=BP y B s a;have L:=Le;go_enter func111,ntmps111;go_upto_region 1 with fail;refine Ce ?_;intro w0 O v l;obtain⟨n,D,z,o⟩:=AX v;obtain⟨C,r,t2⟩:=Ax l;obtain⟨A,q⟩:=An (show Pf w0 w.heap.size (w.heap.size+1) k j (Pn nb) c g b d ts.length i from⟨n,D,z,o,C,r,t2⟩) O;have K:=zab O u;have I:=Ad (zgP w.heap.size (w.heap.size+1) k j (Pn nb) c g b ts d i T fs fa fc w0 A (p.e O) (H.e O) (G.e O) hl E J);go_wp2_with fail;refine I.rtn λM m=>?_;have x:=Ad (q.thn m);go_wp2;go_ret;exact⟨rfl,x⟩
def NI(i:Int)(n:Nat):Bool:=decide (0<=i)&&decide (i<(n:Int))
def IE(vs:AH)(i:Int):Option V:=if 0<=i then vs[i.toNat]? else none
def Ga(t:Tt)(vs:AH):Bool:=
 match IE vs t.aj with
 |none=>false
 |some v=>if t.other = -1 then Bv t.op v t.val else match IE vs t.other with
  |none=>false
  |some o=>Bv t.op v o
def Ah(a:Al)(f:F):Bool:=decide (f.E.toList=a.E.toList)&&(decide ((f.v.length:Int)=a.al)&&a.y.all (λt=>Ga t f.v))
def nO{vs i}(h:NI i vs.length=false):IE vs i=none:=by simp_all[V,NI,IE]
def lp{vs i}(h:NI i vs.length=true):∃(s:Nat)(v:V),i=(s:Int)/\s<vs.length/\vs[s]?=some v/\IE vs i=some v:=by
 simp only[NI,ym,decide_eq_true_eq]at h;obtain⟨s,rfl⟩:=Yk h.1;have a:s<vs.length:=qd;refine⟨s,vs[s],rfl,a,qf,?_⟩;unfold IE;rw[if_pos h.1];simp
def lq(f:F)(a c i w) :
  Ca 276 #[.agg #[I6 f.tag,.string f.E,.slice a f.v.length c],I6 i] w λe w'=>
   e=.returned (.bool (NI i f.v.length))/\Bw w w':=by
 by_cases O:0<=i
 .go_enter func276,ntmps276;go_wp2;go_ret;exact⟨Ba (by simp[NI,O]),Ar⟩
 go_enter func276,ntmps276;go_wp2;go_ret;exact⟨Ba (by simp[NI];omega),Ar⟩
def uV(h:P:=by go_wp2;go_ret;exact⟨Ba HN.z,((B2 _ _).c (O.j (by simp;omega))).drew.c (hb'.j (by have:=(B2 default default).size;have:=O.size;simp at *;omega))⟩):=h
def zph(t)(f:F)(a c w)(hv:Cj w a f.v) :
  Ca 253 #[.agg #[.int .i64 t.aj,.int .i64 t.op,.int .i64 t.other,.int .i64 t.val.w,.int .i64 t.val.num,.string t.val.O],.agg #[.int .i64 f.tag,.string f.E,.slice a f.v.length c]] w λe w'=>
   e=.returned (.bool (Ga t f.v))/\Below w.heap.size w w':=by
 have B2:∀o I,Below w.heap.size w ((w.alloc o).alloc I):=λo I=>((y8 _ _).alloc (yA _) _).alloc qf _;have k:=Ad (λw'=>lq f a c t.aj w');cases n:NI t.aj f.v.length
 .rw[n]at k;have HN:Hid (Ga t f.v=false):=show Ga t f.v=false from by simp[Ga,nO n]
  go_enter func253,ntmps253;go_wp2_with (go_at_call 276;refine(k _).rtn λd O=>?_);go_ret;exact⟨Ba HN.z,(B2 _ _).c (O.j qe)⟩
 rw[n]at k;obtain⟨s,v,es,aa,aq,y⟩:=lp n;obtain⟨b,o,rfl,x,C,A⟩:=hv s v aq;have z0:(0:Int)<=(s:Int):=qd;have z1:(s:Int)<(f.v.length:Int):=qd;by_cases q:t.other = -1
 .have HN:Hid (Ga t f.v=Bv t.op v t.val):=show Ga t f.v=_ from by simp[Ga,y,q]
  have B:=Ad (λw'=>Z8 v t.val t.op w');rw[es,q];rw[es]at k;go_enter func253,ntmps253;go_wp2_with (go_at_call 276;refine(k _).rtn λd O=>?_;have L:d.cell? ⟨w.heap.size,0,none⟩=some (.int .i64 (s:Int)):=zab O ql;have Y:d.cell? ⟨w.heap.size,1,none⟩=some (.int .i64 t.op):=zab O ql;have H:d.cell? ⟨w.heap.size,2,none⟩=some (.int .i64 (-1)):=zab O ql;have J:d.cell? ⟨w.heap.size,3,none⟩=some (.int .i64 t.val.w):=zab O ql;have U:d.cell? ⟨w.heap.size,4,none⟩=some (.int .i64 t.val.num):=zab O ql;have W:d.cell? ⟨w.heap.size,5,none⟩=some (.string t.val.O):=zab O ql;have D:d.cell? ⟨w.heap.size+1,0,none⟩=some (.int .i64 f.tag):=zab O ql;have T:d.cell? ⟨w.heap.size+1,1,none⟩=some (.string f.E):=zab O ql;have G:d.cell? ⟨w.heap.size+1,2,none⟩=some (.slice (some ⟨b,o,none⟩) f.v.length c):=zab O ql;have x0:=zab O (zab (B2 _ _) x);have x1:=zab O (zab (B2 _ _) C);have N:=zab O (zab (B2 _ _) A))
  first
  |(go_region_held3 (λw'=>w'.cell? ⟨w.heap.size,0,none⟩=some (.int .i64 (s:Int))/\w'.cell? ⟨w.heap.size,1,none⟩=some (.int .i64 t.op)/\w'.cell? ⟨w.heap.size,2,none⟩=some (.int .i64 (-1))/\w'.cell? ⟨w.heap.size,3,none⟩=some (.int .i64 t.val.w)/\w'.cell? ⟨w.heap.size,4,none⟩=some (.int .i64 t.val.num)/\w'.cell? ⟨w.heap.size,5,none⟩=some (.string t.val.O)/\w'.cell? ⟨w.heap.size+1,0,none⟩=some (.int .i64 f.tag)/\w'.cell? ⟨w.heap.size+1,1,none⟩=some (.string f.E)/\w'.cell? ⟨w.heap.size+1,2,none⟩=some (.slice (some ⟨b,o,none⟩) f.v.length c)/\w'.cell? ⟨b,o+s*3,none⟩=some (.int .i64 v.w)/\w'.cell? ⟨b,o+s*3+1,none⟩=some (.int .i64 v.num)/\w'.cell? ⟨b,o+s*3+2,none⟩=some (.string v.O)) ((go_split_ands;refine⟨?_,?_,?_,?_,?_,?_,?_,?_,?_,?_,?_,?_⟩<;>first|(simp[*];done)|exact zab hb' qk)) (first|(go_at_call 173;refine(B _).rtn λw' hb'=>?_)|fail))
  |fail
  exact uV
 have g:=Ad (λw'=>lq f (some ⟨b,o,none⟩) c t.other w');cases p:NI t.other f.v.length
 .rw[p]at g;have HN:Hid (Ga t f.v=false):=show Ga t f.v=_ from by simp[Ga,y,q,nO p]
  rw[es];rw[es]at k;go_enter func253,ntmps253;go_wp2_with (go_at_call 276;refine(k _).rtn λd O=>?_;have L:d.cell? ⟨w.heap.size,0,none⟩=some (.int .i64 (s:Int)):=zab O ql;have Y:d.cell? ⟨w.heap.size,1,none⟩=some (.int .i64 t.op):=zab O ql;have H:d.cell? ⟨w.heap.size,2,none⟩=some (.int .i64 t.other):=zab O ql;have J:d.cell? ⟨w.heap.size,3,none⟩=some (.int .i64 t.val.w):=zab O ql;have U:d.cell? ⟨w.heap.size,4,none⟩=some (.int .i64 t.val.num):=zab O ql;have W:d.cell? ⟨w.heap.size,5,none⟩=some (.string t.val.O):=zab O ql;have D:d.cell? ⟨w.heap.size+1,0,none⟩=some (.int .i64 f.tag):=zab O ql;have T:d.cell? ⟨w.heap.size+1,1,none⟩=some (.string f.E):=zab O ql;have G:d.cell? ⟨w.heap.size+1,2,none⟩=some (.slice (some ⟨b,o,none⟩) f.v.length c):=zab O ql;have x0:=zab O (zab (B2 _ _) x);have x1:=zab O (zab (B2 _ _) C);have N:=zab O (zab (B2 _ _) A));refine wp_region_noPanic ?_;refine wp_region_held_drew (S:=(λw'=>w'.cell? ⟨w.heap.size,0,none⟩=some (.int .i64 (s:Int))/\w'.cell? ⟨w.heap.size,1,none⟩=some (.int .i64 t.op)/\w'.cell? ⟨w.heap.size,2,none⟩=some (.int .i64 t.other)/\w'.cell? ⟨w.heap.size,3,none⟩=some (.int .i64 t.val.w)/\w'.cell? ⟨w.heap.size,4,none⟩=some (.int .i64 t.val.num)/\w'.cell? ⟨w.heap.size,5,none⟩=some (.string t.val.O)/\w'.cell? ⟨w.heap.size+1,0,none⟩=some (.int .i64 f.tag)/\w'.cell? ⟨w.heap.size+1,1,none⟩=some (.string f.E)/\w'.cell? ⟨w.heap.size+1,2,none⟩=some (.slice (some ⟨b,o,none⟩) f.v.length c)/\w'.cell? ⟨b,o+s*3,none⟩=some (.int .i64 v.w)/\w'.cell? ⟨b,o+s*3+1,none⟩=some (.int .i64 v.num)/\w'.cell? ⟨b,o+s*3+2,none⟩=some (.string v.O))) qg ?_ (λhHeld=>?_)
  ·(try dsimp only);(go_split_ands;refine⟨?_,?_,?_,?_,?_,?_,?_,?_,?_,?_,?_,?_⟩<;>first|(simp[*];done)|exact zab hb' qk)
  refine wpAnyH_take (i:=0) (oi:=?oi1) (v:=?v1) ?hi1 qg qg qg (λ_ _ _ h=>h) (Or.inl ⟨?wd1,?hy1⟩) hHeld ?rest1
  case hi1=>(simp only[yj,yy];rfl)
  case wd1=>rfl
  case hy1=>(intro w af;(try dsimp only at af);go_simp;try with_reducible rfl)
  (try simp only[Act.put,yq,yF,yG]);refine wpAnyH_take (i:=1) (oi:=?oi2) (v:=?v2) ?hi2 qg qg qg (λ_ _ _ h=>h) (Or.inl ⟨?wd2,?hy2⟩) hHeld ?rest2
  case hi2=>(simp only[yj,yC,yy];rfl)
  case wd2=>rfl
  case hy2=>(intro w af;(try dsimp only at af);go_simp;try with_reducible rfl)
  (try simp only[Act.put,yq,yF,yG]);refine wpAnyH_take (i:=2) (oi:=?oi3) (v:=?v3) ?hi3 qg qg qg (λ_ _ _ h=>h) (Or.inl ⟨?wd3,?hy3⟩) hHeld ?rest3
  case hi3=>(simp only[yj,yC,yy];rfl)
  case wd3=>rfl
  case hy3=>(intro w af;(try dsimp only at af);go_simp;try with_reducible rfl)
  (try simp only[Act.put,yq,yF,yG]);refine r1 3 λK hK=>?_;go_simp;(go_at_call 276;refine(g _).rtn λw' hb'=>?_);(try go_wp2_with fail);refine hK _ _ ?hS4 (λai=>?rest4)
  case hS4=>((try dsimp only);(go_split_ands;refine⟨?_,?_,?_,?_,?_,?_,?_,?_,?_,?_,?_,?_⟩<;>first|(simp[*];done)|exact zab hb' qk))
  (try simp only[Act.put,yq,yF,yG]);have hHeld:=ai;refine wpAnyH_take (i:=4) (oi:=?oi5) (v:=?v5) ?hi5 qg qg qg (λ_ _ _ h=>h) (Or.inl ⟨?wd5,?hy5⟩) hHeld ?rest5
  case hi5=>(simp only[yj,yC,yy];rfl)
  case wd5=>rfl
  case hy5=>(intro w af;(try dsimp only at af);go_simp;try with_reducible rfl)
  (try simp only[Act.put,yq,yF,yG]);refine wpAnyH_take (i:=5) (oi:=?oi6) (v:=undef) ?hi6 qg qg qg (λ_ _ _ h=>h) (Or.inr ⟨?wd6,rfl⟩) hHeld ?rest6
  case hi6=>(simp only[yj,yC,yy];rfl)
  case wd6=>rfl
  (try simp only[Act.put,yq,yF,yG]);refine wpAnyH_take (i:=6) (oi:=?oi7) (v:=undef) ?hi7 qg qg qg (λ_ _ _ h=>h) (Or.inr ⟨?wd7,rfl⟩) hHeld ?rest7
  case hi7=>(simp only[yj,yC,yy];rfl)
  case wd7=>rfl
  (try simp only[Act.put,yq,yF,yG]);refine wpAnyH_take (i:=7) (oi:=?oi8) (v:=undef) ?hi8 qg qg qg (λ_ _ _ h=>h) (Or.inr ⟨?wd8,rfl⟩) hHeld ?rest8
  case hi8=>(simp only[yj,yC,yy];rfl)
  case wd8=>rfl
  (try simp only[Act.put,yq,yF,yG]);refine wpAnyH_take (i:=8) (oi:=?oi9) (v:=undef) ?hi9 qg qg qg (λ_ _ _ h=>h) (Or.inr ⟨?wd9,rfl⟩) hHeld ?rest9
  case hi9=>(simp only[yj,yC,yy];rfl)
  case wd9=>rfl
  (try simp only[Act.put,yq,yF,yG]);refine wpAnyH_take (i:=9) (oi:=?oi10) (v:=undef) ?hi10 qg qg qg (λ_ _ _ h=>h) (Or.inr ⟨?wd10,rfl⟩) hHeld ?rest10
  case hi10=>(simp only[yj,yC,yy];rfl)
  case wd10=>rfl
  (try simp only[Act.put,yq,yF,yG]);refine wpAnyH_take (i:=10) (oi:=?oi11) (v:=undef) ?hi11 qg qg qg (λ_ _ _ h=>h) (Or.inr ⟨?wd11,rfl⟩) hHeld ?rest11
  case hi11=>(simp only[yj,yC,yy];rfl)
  case wd11=>rfl
  (try simp only[Act.put,yq,yF,yG]);refine wpAnyH_take (i:=11) (oi:=?oi12) (v:=undef) ?hi12 qg qg qg (λ_ _ _ h=>h) (Or.inr ⟨?wd12,rfl⟩) hHeld ?rest12
  case hi12=>(simp only[yj,yC,yy];rfl)
  case wd12=>rfl
  (try simp only[Act.put,yq,yF,yG]);refine wpAnyH_take (i:=12) (oi:=?oi13) (v:=undef) ?hi13 qg qg qg (λ_ _ _ h=>h) (Or.inr ⟨?wd13,rfl⟩) hHeld ?rest13
  case hi13=>(simp only[yj,yC,yy];rfl)
  case wd13=>rfl
  (try simp only[Act.put,yq,yF,yG]);refine wpAnyH_take (i:=13) (oi:=?oi14) (v:=undef) ?hi14 qg qg qg (λ_ _ _ h=>h) (Or.inr ⟨?wd14,rfl⟩) hHeld ?rest14
  case hi14=>(simp only[yj,yC,yy];rfl)
  case wd14=>rfl
  (try simp only[Act.put,yq,yF,yG]);refine wpAnyH_take (i:=14) (oi:=?oi15) (v:=undef) ?hi15 qg qg qg (λ_ _ _ h=>h) (Or.inr ⟨?wd15,rfl⟩) hHeld ?rest15
  case hi15=>(simp only[yj,yC,yy];rfl)
  case wd15=>rfl
  (try simp only[Act.put,yq,yF,yG]);refine wpAnyH_take (i:=15) (oi:=?oi16) (v:=undef) ?hi16 qg qg qg (λ_ _ _ h=>h) (Or.inr ⟨?wd16,rfl⟩) hHeld ?rest16
  case hi16=>(simp only[yj,yC,yy];rfl)
  case wd16=>rfl
  (try simp only[Act.put,yq,yF,yG]);refine wpAnyH_take (i:=16) (oi:=?oi17) (v:=undef) ?hi17 qg qg qg (λ_ _ _ h=>h) (Or.inr ⟨?wd17,rfl⟩) hHeld ?rest17
  case hi17=>(simp only[yj,yC,yy];rfl)
  case wd17=>rfl
  (try simp only[Act.put,yq,yF,yG]);refine wpAnyH_take (i:=17) (oi:=?oi18) (v:=undef) ?hi18 qg qg qg (λ_ _ _ h=>h) (Or.inr ⟨?wd18,rfl⟩) hHeld ?rest18
  case hi18=>(simp only[yj,yC,yy];rfl)
  case wd18=>rfl
  (try simp only[Act.put,yq,yF,yG]);refine wpAnyH_take (i:=18) (oi:=?oi19) (v:=undef) ?hi19 qg qg qg (λ_ _ _ h=>h) (Or.inr ⟨?wd19,rfl⟩) hHeld ?rest19
  case hi19=>(simp only[yj,yC,yy];rfl)
  case wd19=>rfl
  (try simp only[Act.put,yq,yF,yG]);refine wpAnyH_take (i:=19) (oi:=?oi20) (v:=undef) ?hi20 qg qg qg (λ_ _ _ h=>h) (Or.inr ⟨?wd20,rfl⟩) hHeld ?rest20
  case hi20=>(simp only[yj,yC,yy];rfl)
  case wd20=>rfl
  (try simp only[Act.put,yq,yF,yG]);refine wpAnyH_take (i:=20) (oi:=?oi21) (v:=?v21) ?hi21 qg qg qg (λ_ _ _ h=>h) (Or.inl ⟨?wd21,?hy21⟩) hHeld ?rest21
  case hi21=>(simp only[yj,yC,yy];rfl)
  case wd21=>rfl
  case hy21=>(intro w af;(try dsimp only at af);go_simp;try with_reducible rfl)
  (try simp only[Act.put,yq,yF,yG]);refine wpAnyH_take (i:=21) (oi:=?oi22) (v:=?v22) ?hi22 qg qg qg (λ_ _ _ h=>h) (Or.inl ⟨?wd22,?hy22⟩) hHeld ?rest22
  case hi22=>(simp only[yj,yC,yy];rfl)
  case wd22=>rfl
  case hy22=>(intro w af;(try dsimp only at af);go_simp;try with_reducible rfl)
  (try simp only[Act.put,yq,yF,yG]);refine wpAnyH_done qg ?_ _;refine Yb ?_;exact uV
 rw[p]at g;obtain⟨r,u,R,ar,Z,ao⟩:=lp p;obtain⟨b2,o2,e2,g0,g1,g2⟩:=hv r u Z;cases e2;have HN:Hid (Ga t f.v=Bv t.op v u):=show Ga t f.v=_ from by simp[Ga,y,q,ao]
 have B:=Ad (λw'=>Z8 v u t.op w');have y0:(0:Int)<=(r:Int):=qd;have y1:(r:Int)<(f.v.length:Int):=qd;have y2:((r:Int)==-1)=false:=qf;rw[R]at g;rw[es,R];rw[es]at k;go_enter func253,ntmps253;go_wp2_with (go_at_call 276;refine(k _).rtn λd O=>?_;have L:d.cell? ⟨w.heap.size,0,none⟩=some (.int .i64 (s:Int)):=zab O ql;have Y:d.cell? ⟨w.heap.size,1,none⟩=some (.int .i64 t.op):=zab O ql;have H:d.cell? ⟨w.heap.size,2,none⟩=some (.int .i64 (r:Int)):=zab O ql;have J:d.cell? ⟨w.heap.size,3,none⟩=some (.int .i64 t.val.w):=zab O ql;have U:d.cell? ⟨w.heap.size,4,none⟩=some (.int .i64 t.val.num):=zab O ql;have W:d.cell? ⟨w.heap.size,5,none⟩=some (.string t.val.O):=zab O ql;have D:d.cell? ⟨w.heap.size+1,0,none⟩=some (.int .i64 f.tag):=zab O ql;have T:d.cell? ⟨w.heap.size+1,1,none⟩=some (.string f.E):=zab O ql;have G:d.cell? ⟨w.heap.size+1,2,none⟩=some (.slice (some ⟨b,o,none⟩) f.v.length c):=zab O ql;have x0:=zab O (zab (B2 _ _) x);have x1:=zab O (zab (B2 _ _) C);have N:=zab O (zab (B2 _ _) A);have v0:=zab O (zab (B2 _ _) g0);have v1:=zab O (zab (B2 _ _) g1);have v2:=zab O (zab (B2 _ _) g2))
 first
 |(go_region_held3 (λw'=>w'.cell? ⟨w.heap.size,0,none⟩=some (.int .i64 (s:Int))/\w'.cell? ⟨w.heap.size,1,none⟩=some (.int .i64 t.op)/\w'.cell? ⟨w.heap.size,2,none⟩=some (.int .i64 (r:Int))/\w'.cell? ⟨w.heap.size,3,none⟩=some (.int .i64 t.val.w)/\w'.cell? ⟨w.heap.size,4,none⟩=some (.int .i64 t.val.num)/\w'.cell? ⟨w.heap.size,5,none⟩=some (.string t.val.O)/\w'.cell? ⟨w.heap.size+1,0,none⟩=some (.int .i64 f.tag)/\w'.cell? ⟨w.heap.size+1,1,none⟩=some (.string f.E)/\w'.cell? ⟨w.heap.size+1,2,none⟩=some (.slice (some ⟨b,o,none⟩) f.v.length c)/\w'.cell? ⟨b,o+s*3,none⟩=some (.int .i64 v.w)/\w'.cell? ⟨b,o+s*3+1,none⟩=some (.int .i64 v.num)/\w'.cell? ⟨b,o+s*3+2,none⟩=some (.string v.O)/\w'.cell? ⟨b,o+r*3,none⟩=some (.int .i64 u.w)/\w'.cell? ⟨b,o+r*3+1,none⟩=some (.int .i64 u.num)/\w'.cell? ⟨b,o+r*3+2,none⟩=some (.string u.O)) ((go_split_ands;refine⟨?_,?_,?_,?_,?_,?_,?_,?_,?_,?_,?_,?_,?_,?_,?_⟩<;>first|(simp[*];done)|exact zab hb' qk)) (first|(go_at_call 276;refine(g _).rtn λw' hb'=>?_)|(go_at_call 173;refine(B _).rtn λau M=>?_;have m:=hb';have hb':=M)|fail))
 |fail
 go_wp2;go_ret;exact⟨Ba HN.z,(((B2 _ _).c (O.j qe)).drew.c (m.j (by have:=(B2 default default).size;have:=O.size;simp at *;omega))).c (M.j (by have:=(B2 default default).size;have:=O.size;have:=m.size;simp at *;omega))⟩
def zo2{x f}(h:¬f.E.toList=x.E.toList):Ah x f=false:=by simp[Ah,h]
def zoG{x f}(h:¬(f.v.length:Int)=x.al):Ah x f=false:=by simp[Ah,h]
def zow{x f}(h:f.E.toList=x.E.toList)(O:(f.v.length:Int)=x.al):Ah x f=x.y.all (λt=>Ga t f.v):=by simp[Ah,h,O]
def UF(w:Aa)(b:Nat)(f:F)(a:Af)(c:Nat):Prop:=w.cell? ⟨b,0,none⟩=some (.int .i64 f.tag)/\w.cell? ⟨b,1,none⟩=some (.string f.E)/\w.cell? ⟨b,2,none⟩=some (.slice a f.v.length c)
theorem UF.e{w w' b f a c}(h:UF w b f a c)(d:Bw w w'):UF w' b f a c:=⟨zab d h.1,zab d h.2.1,zab d h.2.2⟩
def zqu(x a_tests c_tests f a c){q}(w)(A:F7 q w a_tests x.y)(hv:Cj w a f.v)(hl:x.y.length<=1048576) :
  Ca 209 #[.agg #[.string x.E,.int .i64 x.al,.slice a_tests x.y.length c_tests],.agg #[.int .i64 f.tag,.string f.E,.slice a f.v.length c]] w λe w'=>
   e=.returned (.bool (Ah x f))/\Bw w w':=by
 by_cases p:f.E.toList=x.E.toList
 .by_cases d:(f.v.length:Int)=x.al
  .have u:Hid (Ah x f=x.y.all (λt=>Ga t f.v)):=zow p d;have C:((f.v.length:Int) != x.al)=false:=by simp[d]
   go_enter func209,ntmps209;go_wp2
   go_loopw [23] (λi wr=>∃(k:Nat),k<=x.y.length/\i=.int .i64 k/\Ah x f=(x.y.drop k).all (λt=>Ga t f.v)/\UF wr (w.heap.size+1) f a c/\Bw w wr) (mz x.y.length)
   .exact⟨0,qd,rfl,u,by refine⟨?_,?_,?_⟩<;>simp[go_sem],Br⟩
   obtain⟨k,W,rfl,G,O,hb⟩:=hrel;obtain⟨HG,HBX⟩:=An G O;by_cases B:k<x.y.length
   .obtain⟨t,s⟩:=Bq B;obtain⟨b,o,rfl,H,I,Y,T,J,L,R⟩:=(A.e hb).get s;have n:Hid (x.y.drop k=t::x.y.drop (k+1)):=Dx s;obtain⟨D,r⟩:=An (λo=>(hv.e hb).e (Gp o)) (λw' h=>zph t f a c w' h);have U:∀o,(wr.alloc o).cell? ⟨w.heap.size+1,0,none⟩=_:=λo=>zab (Gp o) O.1;have K:∀o,(wr.alloc o).cell? ⟨w.heap.size+1,1,none⟩=_:=λo=>zab (Gp o) O.2.1;have N:∀o,(wr.alloc o).cell? ⟨w.heap.size+1,2,none⟩=_:=λo=>zab (Gp o) O.2.2;cases g:Ga t f.v
    all_goals
     rw[g]at r;go_wp2_with (go_at_call 253;refine(r _ (D _)).rtn λM m=>?_)
    .go_ret;exact⟨Ba (by rw[HG.o,n.o,YR,g];rfl),hb.c ((Ar.thn m).j hb.size)⟩
    go_roundw
    case rel=>exact⟨k+1,qd,qm,by rw[HG.o,n.o,YR,g];rfl,HBX.e (Ar.thn m),hb.c ((Ar.thn m).j hb.size)⟩
    case measure=>(simp;omega)
   exact TQ
  have l:Hid (Ah x f=false):=zoG d;have C:((f.v.length:Int) != x.al)=true:=by simp[d]
  go_enter func209,ntmps209;go_wp2;go_ret;exact⟨Ba l.z,Br⟩
 have l:Hid (Ah x f=false):=zo2 p;go_enter func209,ntmps209;go_wp2;go_ret;exact⟨Ba l.z,Br⟩
structure DG(w:Aa) (nb:Nat) (x:Al) (a:Af) (c:Nat):Prop where
 c0:w.cell? ⟨nb,0,none⟩=some (.string x.E)
 c1:w.cell? ⟨nb,1,none⟩=some (.int .i64 x.al)
 c2:w.cell? ⟨nb,2,none⟩=some (.slice a x.y.length c)
 tt:F7 none w a x.y
theorem DG.e{w w' nb x a c}(h:DG w nb x a c)(b:Bw w w'):DG w' nb x a c:=⟨zab b h.c0,zab b h.c1,zab b h.c2,h.tt.e b⟩
def RX(nb x a c i f w)(p:DG w nb x a c)(hF:DJ w i f)(hl:x.y.length<=1048576) :
  Ca 152 #[Pn nb,i] w λe w'=>e=.returned (.bool (Ah x f))/\Bw w w':=by
 obtain⟨r,z,s,O⟩:=p;obtain⟨b,o,rfl,q,t,sa,g,u,k⟩:=hF;obtain⟨m,D⟩:=An (λw'(h:Bw w w')=>zqu x a c f sa g w' (O.e h) (k.e h) hl) (y8 w.heap.size w);go_enter func152,ntmps152;go_wp2_with fail
 go_region_held3 (λw'=>At w' nb 0 (.string x.E)/\At w' nb 1 (I6 x.al)/\At w' nb 2 (.slice a x.y.length c)/\At w' b o (I6 f.tag)/\At w' b (o+1) (.string f.E)/\At w' b (o+2) (.slice sa f.v.length g)/\Bw w w') ((go_split_ands;refine⟨?_,?_,?_,?_,?_,?_,?_⟩<;>first|(simp[*];done)|exact D.drew|exact zab d qk|exact V3 qk (Below.j d (Below.size qk)))) (first|(go_at_call 209;refine(m _ (by first|exact D.drew|assumption)).rtn λw' d=>?_)|fail)
 rename_i l;have n:=Ad l.2.2.2.2.2.2;go_wp2;go_ret;exact⟨rfl,n⟩
structure Cn where
 neg:Bool
 Y:Nat
 node:Nat
 y:List Jt
 H:Al
 J:Ab
structure XM(w:Aa) (c:Cn) (ta:Af):Prop where
 y:EJ w ta c.y
 node:∃a n,DG w c.node c.H a n
 J:∃fa fc,w.cell? ⟨c.node,4,none⟩=some (.slice fa c.J.length fc)/\Mv w fa c.J
theorem XM.e{w w' c d}(h:XM w c d)(b:Bw w w'):XM w' c d:=by
 obtain⟨f,⟨a,n,g⟩,fa,fc,i,j⟩:=h;exact⟨f.e b,⟨a,n,g.e b⟩,fa,fc,zab b i,j.e b⟩
def SC(w:Aa)(a:Af)(cs:List Cn):Prop:=∀(i:Nat)(c:Cn),cs[i]?=some c->∃b o ta tc,a=some ⟨b,o,none⟩/\w.cell? ⟨b,o+i*4,none⟩=some (.bool c.neg)/\w.cell? ⟨b,o+i*4+1,none⟩=some (.int .i64 (c.Y:Int))/\w.cell? ⟨b,o+i*4+2,none⟩=some (.pointer (some ⟨c.node,0,none⟩))/\w.cell? ⟨b,o+i*4+3,none⟩=some (.slice ta c.y.length tc)/\XM w c ta
theorem SC.e{w w' a cs}(h:SC w a cs)(d:Bw w w'):SC w' a cs:=by
 intro i c f;obtain⟨b,o,l,g,e,O,j,k,n,m⟩:=h i c f;exact⟨b,o,l,g,e,zab d O,zab d j,zab d k,zab d n,m.e d⟩
def x_(c:Cn):Prop:=c.y.length<=1048576/\c.J.length<=1048576/\c.H.y.length<=1048576
def IX(T:Ab)(v:Vr):V:=(((T[v.aw]?.map (·.v)).getD [])[v.aj]?.getD (0,0,⟨#[]⟩))
def Bc(T:Ab)(vs:AY):BA:=vs.map (λv=>⟨v.name,IX T v⟩)
def RM(T s):∀vs:AY,DM (Bc T vs) s=(Cv vs s).map (IX T)
 |[]=>rfl
 |v::r=>by
  have O:=RM T s r
  unfold Bc at O⊢
  rw[yx,PF,gQ]
  by_cases h:v.name=s
  .rw[if_pos h,if_pos h];rfl
  rw[if_neg h,if_neg h];exact O
def gz(s:ByteArray)(b:BA):∀a:BA,DM (a++b) s=(match DM a s with|some x=>some x|none=>DM b s)
 |[]=>rfl
 |x::r=>by
  rw[Yz,PF,PF]
  by_cases h:x.F=s
  .rw[if_pos h,if_pos h]
  rw[if_neg h,if_neg h];exact gz s b r
theorem zkg(name:ByteArray)(t:Tm):∀(l:A3)(k:Nat),Iq name (l++[t]) k=(match Iq name l k with|some j=>some j|none=>if Jy name t=true then some (k+l.length) else none):=by intro l;induction l<;>grind[Iq,Jy]
theorem Oz{ts:A3}{i:Nat}{t:Tm}(h:ts[i]?=some t)(name:ByteArray):Aq ts (i+1) name=(match Aq ts i name with|some j=>some j|none=>if Jy name t=true then some i else none):=by grind[Aq,Iq,Jy,zkg,List.getElem?_eq_some_iff,Nat.le_of_lt,Nat.min_eq_left,List.take_add_one]
def Dg(bs:BA)(ts:A3)(sl:AH):Nat->BA
 |0=>[]
 |i+1=>Dg bs ts sl i++(match ts[i]?,sl[i]? with|some t,some v=>if t.w=2/\DM bs t.F=none/\Aq ts i t.F=none then [⟨t.F,v⟩] else []|_,_=>[])
def Vo{a ts b i t v}(h:ts[i]?=some t)(hv:b[i]?=some v):Dg a ts b (i+1)=Dg a ts b i++(if t.w=2/\DM a t.F=none/\Aq ts i t.F=none then [⟨t.F,v⟩] else []):=by
 simp[Dg,h,hv]
theorem JY{name t}:Jy name t=true↔t.w=2/\t.F=name:=by
 unfold Jy;rw[Gu];simp
def VL{name}:∀{l:A3}{s k:Nat},Iq name l s=some k->k<s+l.length:=by intro l;induction l<;>grind[Iq,Jy]
def pp{c ts a}(hl:ts.length=a.length){name}(k:DM c name=none):∀i,i<=ts.length->DM (Dg c ts a i) name=(Aq ts i name).bind (λj=>a[j]?)
 |0,_=>by simp[Dg,DM,Aq,Iq]
 |i+1,hi=>by
  obtain⟨t,g⟩:∃t,ts[i]?=some t:=⟨ts[i],qf⟩
  obtain⟨v,hv⟩:∃v,a[i]?=some v:=⟨a[i],qf⟩
  have ih:=pp hl k i qd
  rw[Vo g hv,gz,ih,Oz g]
  cases f:Aq ts i name with
  |some j=>
   have hj:j<ts.length:=by
    have:=VL f;simp at this;omega
   simp[show j<a.length by omega]
  |none=>
   simp only[Option.bind_none];by_cases b:Jy name t=true
   .obtain⟨l,O⟩:=JY.1 b;subst O;rw[if_pos ⟨l,k,f⟩,if_pos b,PF,if_pos rfl];simp[hv]
   rw[if_neg b];by_cases d:t.w=2/\DM c t.F=none/\Aq ts i t.F=none
   .rw[if_pos d,PF,if_neg (λe=>b (JY.2 ⟨d.1,e⟩))];rfl
   rw[if_neg d];rfl
def Iv(i:Nat)(x p0 p1 p2:Value):Bl:=#[if i=0 then x else p0,if i=1 then x else p1,if i=2 then x else p2]
def jH(h:P:=by exact(((B0.setCell (by simp) _).setCell (by simp) _).setCell (by simp) _).setCell (by simp) _):=h
def VM(b c a x)(i:Nat)(w)(m:i<3) :
  Ca 114 #[.agg #[.pointer b,.pointer c,.pointer a],I6 (i:Int),.pointer x] w λe w'=>e=.returned (.agg (Iv i (.pointer x) (.pointer b) (.pointer c) (.pointer a)))/\Bw w w':=by
 go_enter func114,ntmps114;go_upto_region 1 with fail;refine Ce ?_;intro w0 k g O;have d:∀j,w0.frozen? ⟨w.heap.size,j,none⟩=false:=λj=>by simp[World.frozen?,g]
 have f:∀j,w0.frozen? ⟨w.heap.size+1,j,none⟩=false:=λj=>by simp[World.frozen?,O]
 obtain⟨u,l,o⟩:=Ax g;obtain⟨y,s,t⟩:=Ax O;have x0:=d 0;have x1:=d 1;have n:=d 2;have p:=f 0;have q:=f 1;have r:=f 2;have B0:=Ad k;have hl:w.heap.size+1<w0.heap.size:=Ap O;rcases i with _|_|_|i
 .go_wp2;refine bodyPost_ret (v:=.agg (Iv 0 (.pointer x) (.pointer b) (.pointer c) (.pointer a))) j4 rfl ⟨rfl,?_⟩;exact jH
 .go_wp2;refine bodyPost_ret (v:=.agg (Iv 1 (.pointer x) (.pointer b) (.pointer c) (.pointer a))) j4 rfl ⟨rfl,?_⟩;exact jH
 .go_wp2;refine bodyPost_ret (v:=.agg (Iv 2 (.pointer x) (.pointer b) (.pointer c) (.pointer a))) j4 rfl ⟨rfl,?_⟩;exact jH
 omega
end Go.Proofs.YtikojfajahnhgaaGreat
