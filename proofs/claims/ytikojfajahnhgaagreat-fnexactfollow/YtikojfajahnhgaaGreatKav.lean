import Derived.Test.YtikojfajahnhgaaGreatKas
import Derived.Test.YtikojfajahnhgaaGreatKao
set_option linter.all false
set_option maxHeartbeats 3200000
set_option maxRecDepth 100000
namespace Go.Proofs.YtikojfajahnhgaaGreat
attribute [local simp] At I6 Pn mzI
attribute [local go_sem] At I6 Pn
open Go.RowKit Go.Proofs.Tryz
def Cj(t:Tt):List Value:=[.int .i64 t.slot,.int .i64 t.op,.int .i64 t.other,.int .i64 t.val.kind,.int .i64 t.val.num,.string t.val.av]
def P_:∀S:List Tt,(S.flatMap Cj).length=S.length*6
 |[]=>rfl
 |s::r=>by rw[yE,yR,P_ r];simp[Cj];omega
def Vl:∀(S:List Tt)(i:Nat)(s:Tt)(j:Nat)(v:Value),S[i]?=some s->(Cj s)[j]?=some v->(S.flatMap Cj)[i*6+j]?=some v
 |[],i,s,j,v,h,_=>by simp at h
 |x::r,0,s,j,v,h,hj=>by
  simp at h
  subst h
  have hl:j<(Cj x).length:=(yf.1 hj).1
  rw[yE,yB qd]
  simpa using hj
 |x::r,i+1,s,j,v,h,hj=>by
  have:=Vl r i s j v qq hj
  rw[yE,yF (by simp[Cj];omega),show(i+1)*6+j-(Cj x).length=i*6+j by simp[Cj];omega]
  exact this
def EC.owns{w base n a c S}(h:w.ownsRow base 320 6 (.slice a n c) n (S.flatMap Cj)):EC none w a S:=by
 intro i s b;obtain⟨g,rfl,_,_,_⟩:=CC h (Vl S i s 0 _ b rfl);refine⟨g,0,Cj s,rfl,Qb.bare _ _ _,rfl,?_,rfl⟩;intro j v hj;obtain⟨Y,O,_,d,_⟩:=CC h (Vl S i s j v b hj);cases O;rwa [Yt]
def Qn(s):∀u∈Cj s,u.oneCell'=true:=by
 intro u hu;simp[Cj]at hu;rcases hu with rfl|rfl|rfl|rfl|rfl|rfl<;>rfl
def RQ:(prog.info? 320).map (λi=>(i.zero,i.size,i.bytes))=some (some (.agg #[I6 0,I6 0,I6 0,I6 0,I6 0,.string ⟨#[]⟩]),6,56):=qf
def C3(w:World)(b:Nat)(x0 x1 x2:Value):Prop:=w.cell? ⟨b,0,none⟩=some x0/\w.cell? ⟨b,1,none⟩=some x1/\w.cell? ⟨b,2,none⟩=some x2/\w.frozen? ⟨b,0,none⟩=false/\w.frozen? ⟨b,1,none⟩=false/\w.frozen? ⟨b,2,none⟩=false
def C3.aJ{w w' b B x0 x1 a}(h:C3 w b x0 x1 a)(d:Below B w w')(e:b<B):C3 w' b x0 x1 a:=by
 obtain⟨Y,j,f,i,O,g⟩:=h;have c:=d.block b e;refine⟨?_,?_,?_,?_,?_,?_⟩<;>simp only[World.cell?,World.frozen?,c]<;>assumption
def C3.lt{w b x0 x1 a}(h:C3 w b x0 x1 a):b<w.heap.size:=by
 by_cases c:b<w.heap.size
 .exact c
 have:w.heap[b]?=none:=Kw qd;have O:=h.1;simp[World.cell?,this]at O
def C3.J{w w' b x0 x1 a}(h:C3 w b x0 x1 a)(c:Bw w w'):C3 w' b x0 x1 a:=h.aJ c h.lt
def C3.made(w:World)(t x0 x1 a):C3 (w.alloc (.cells #[x0,x1,a] t)) w.heap.size x0 x1 a:=by
 refine⟨?_,?_,?_,?_,?_,?_⟩<;>simp[go_sem]
def C3.dF{w b x0 x1 a}(h:C3 w b x0 x1 a)(y):C3 (w.setCell ⟨b,2,none⟩ y) b x0 x1 y:=by
 have hl:=h.lt;obtain⟨Y,f,e,d,O,c⟩:=h;refine⟨?_,?_,?_,?_,?_,?_⟩<;>simp[go_sem, *]
def UY{d wr c B x0 x1 v t b m a xs}(Y:C3 wr B x0 x1 v)(e:Below (B+1) wr c)(O:c.ownsRow (B+1) t 6 (.slice b m a) m xs)(i:Below B d wr) :
  C3 (c.setCell ⟨B,2,none⟩ (.slice b m a)) B x0 x1 (.slice b m a)/\(c.setCell ⟨B,2,none⟩ (.slice b m a)).ownsRow (B+1) t 6 (.slice b m a) m xs/\Below B d (c.setCell ⟨B,2,none⟩ (.slice b m a)):=by
 refine⟨(Y.aJ e qd).dF _,BZ O (λg f=>?_),(i.j (e.ac qd)).setCell qe _⟩;have:=(O.lt g f).1;exact Yb _ _ _ _ qg
def zmj{s:ByteArray}(h:s.toList.isEmpty=true):s=⟨#[]⟩:=by
 have a:(s.toList==(⟨#[]⟩:ByteArray).toList)=true:=by
  have:s.toList=[]:=qq;rw[this,show(⟨#[]⟩:ByteArray).toList=[] by decide +kernel];rfl
 rw[EV]at a;simpa using a
def i9{v}(h:Cr v=true):v=Jm:=by
 simp only[Cr,BT,yk,beq_iff_eq]at h;obtain⟨O,c,a⟩:=h;have b:=zmj a;exact Prod.ext O (Prod.ext c b)
def uR{t}(h:Dt t=true)(hv:t.var.toList.isEmpty=false):t.val=Jm:=by
 have a:BT t.var=false:=hv;unfold Dt OD at h;rw[a]at h;split at h
 .simp at h
 split at h
 .simp at h
 split at h
 .simp only[yk]at h;exact i9 h.2.2
 split at h
 .simp only[WX,Bool.false_or,yk]at h;exact i9 h.2.2.2
 cases h
def gh{p}(h:Dc p=true){i:Nat}{t}(a:p.aa[i]?=some t):Dt t=true:=by
 simp only[Dc,yk]at h;exact YX.1 h.2.2 t (yd a)
def UE{p}(h:Dc p=true):p.aa.length<=6:=by
 simp only[Dc,yk,decide_eq_true_eq]at h;exact h.2.1
def zt{ts k t}(h:ts[k]?=some t):BN ts (k+1)=BN ts k++(EF ts k t).toList:=by
 simp[BN,h]
def Sq(ts):∀k,(BN ts k).length<=k
 |0=>yX _
 |k+1=>by
  have:=Sq ts k
  unfold BN
  rw[yR]
  cases ts[k]? with
  |none=>simp;omega
  |some t=>cases h:EF ts k t<;>simp[h]<;>omega
def Tt.bA(t:Tt):Int × Int × Int × Int × Int × ByteArray:=(t.slot,t.op,t.other,t.val.kind,t.val.num,t.val.av)
def Al.bA(x:Al):ByteArray × Int × List (Int × Int × Int × Int × Int × ByteArray):=(x.ak,x.arity,x.ah.map Tt.bA)
def Tt.bB{x y:Tt}(h:x.bA=y.bA):x=y:=by
 obtain⟨b,j,g,i,e,O⟩:=x;obtain⟨d,f,c,a,Y,k⟩:=y;simp only[Tt.bA,V.kind,V.num,V.av,YW]at h;obtain⟨rfl,rfl,rfl,rfl,rfl,rfl⟩:=h;rfl
def ii:∀{xs ys:List Tt},xs.map Tt.bA=ys.map Tt.bA->xs=ys
 |[],[],_=>rfl
 |[],_::_,h=>by simp at h
 |_::_,[],h=>by simp at h
 |x::xs,y::ys,h=>by
  simp only[yn,Yh]at h
  rw[Tt.bB h.1,ii h.2]
def Al.bB{x y:Al}(h:x.bA=y.bA):x=y:=by
 obtain⟨b,g,f⟩:=x;obtain⟨d,e,c⟩:=y;simp only[Al.bA,YW]at h;obtain⟨rfl,rfl,a⟩:=h;rw[ii a]
def N6(x y:Al):Bool:=decide (x.ak=y.ak)&&(decide (x.arity=y.arity)&&decide (x.ah.map Tt.bA=y.ah.map Tt.bA))
def Vo{x y}:N6 x y=true↔x=y:=by
 unfold N6;simp only[yk,decide_eq_true_eq];exact⟨λh=>Al.bB (by simp[Al.bA,h.1,h.2.1,h.2.2]),λh=>by rw[h];exact⟨rfl,rfl,rfl⟩⟩
def DI(x:Al):List Al->Nat
 |[]=>0
 |y::r=>if N6 y x then 0 else DI x r+1
def i5(x):∀A:List Al,DI x A<=A.length
 |[]=>yX _
 |y::r=>by
  have:=i5 x r
  unfold DI
  split<;>simp
  omega
def ia{x}:∀{A:List Al},DI x A<A.length->A[DI x A]?=some x
 |[],h=>by simp at h
 |y::r,h=>by
  unfold DI at h⊢
  split
  .rename_i a
   rw[Vo.1 a]
   rfl
  rename_i a
  rw[if_neg a]at h
  simp only[yw]
  exact ia (by simpa using h)
def Ff(A:List Al)(x:Al):List Al:=if DI x A<A.length then A else A++[x]
def ig{A x}(h:DI x A<A.length):Ff A x=A:=if_pos h
def iG{A x}(h:¬DI x A<A.length):Ff A x=A++[x]:=if_neg h
def j9{A x}(h:¬DI x A<A.length):DI x A=A.length:=by have:=i5 x A;omega
def zoo(A x):(Ff A x).length<=A.length+1:=by
 unfold Ff;split<;>simp
def SJ(p):(C0 p).ah.length<=6:=by
 unfold C0;split
 .rename_i h;exact yi (Sq _ _) (UE h)
 simp
abbrev FP:=Al × Value
def N0(w:World)(base:Nat)(x:FP):Prop:=(∃a c,x.2=.slice a x.1.ah.length c)/\w.ownsRow base 320 6 x.2 x.1.ah.length (x.1.ah.flatMap Cj)
def N0.ar{w w' base x}(h:N0 w base x)(a:Bw w w'):N0 w' base x:=⟨h.1,Bg h.2 a⟩
section
open Go.Maps
attribute [local go_sem ↓] wp_at_zero wp_at_succ
def zT:Tt:=⟨0,0,0,(0,0,⟨#[]⟩)⟩
def GF(ts:List Tt):List Tt:=ts++List.replicate (6-ts.length) zT
def IM(cls:ByteArray)(n:Int)(ts:List Tt):List Value:=.string cls::.int .i64 n::ts.flatMap Cj
def Cm(x:Al):List Value:=IM x.ak x.arity (GF x.ah)
def Z_(ts:List Tt):∀x∈ts.flatMap Cj,x.oneCell'=true:=by
 intro x b;obtain⟨t,_,a⟩:=Yk.1 b;exact Qn t x a
def Qc(a n ts):(IM a n ts).length=ts.length*6+2:=by
 show(ts.flatMap Cj).length+1+1=_;rw[P_]
def W_(b n ts):∀x∈IM b n ts,x.oneCell'=true:=by
 intro x a;simp only[IM,yO]at a;rcases a with rfl|rfl|a
 .rfl
 .rfl
 exact Z_ ts x a
def PE(ts)(h:ts.length<=6):(GF ts).length=6:=by simp[GF];omega
def zmo(a n ts)(h:ts.length<=6) :
  (IM a n (List.replicate 6 zT)).take 2++(ts.flatMap Cj++(IM a n (List.replicate 6 zT)).drop (2+(ts.flatMap Cj).length))=IM a n (GF ts):=by
 have e:∀k,k<=6->((List.replicate 6 zT).flatMap Cj).drop (k*6)=(List.replicate (6-k) zT).flatMap Cj:=by
  exact nr
 rw[P_];unfold IM GF;rw[Yu,<-e ts.length h,show 2+ts.length*6=ts.length*6+1+1 by omega];rfl
def ph(ts:List Tt)(j x)(h:(ts.flatMap Cj)[j]?=some x):∃t,ts[j/6]?=some t/\(Cj t)[j%6]?=some x:=by
 induction ts generalizing j with
 |nil=>simp at h
 |cons t r O=>
  have a:(Cj t).length=6:=rfl;rw[yE]at h;by_cases hj:j<6
  .rw[yB qd]at h;refine⟨t,?_,?_⟩
   .rw[show j/6=0 by omega];rfl
   rwa [show j%6=j by omega]
  rw[yF qd]at h;obtain⟨u,b,c⟩:=O (j-(Cj t).length) h;rw[a]at b c;refine⟨u,?_,?_⟩
  .rw[show j/6=(j-6)/6+1 by omega];exact b
  rwa [show j%6=(j-6)%6 by omega]
def EC.flat{q w a ts}(h:EC q w (some a) ts)(j x)(d:(ts.flatMap Cj)[j]?=some x):w.cell? (a.add j)=some x:=by
 obtain⟨t,g,e⟩:=ph ts j x d;obtain⟨b,o,r,c,_,_,i,f⟩:=h _ t g;cases c;have Y:r=Cj t:=f;have O:(⟨b,o,none⟩:Addr).add j=⟨b,o+j,none⟩:=YZ b o j;rw[O];have:=i (j%6) x (by rw[Y];exact e);rw[show o+j=o+j/6*6+j%6 by omega];exact this
def EC.cJ{q w ts}(h:EC q w none ts):ts.length=0:=by
 cases ts with
 |nil=>rfl
 |cons v r=>
  obtain⟨b,o,_,a,_⟩:=h 0 v rfl;cases a
def Eu(w:World)(o n)(h:w.heap.size=n):(w.alloc o).heap[n]?=some o:=by
 subst h;exact heap_alloc_new _ _
def Oh:(prog.info? 323).map (·.size)=some 38:=qf
def rX:(prog.info? 320).map (·.size)=some 6:=qf
def uZ(x a c){q}(w)(hv:EC q w a x.ah)(hl:x.ah.length<=6) :
  Ca 205 #[.agg #[.string x.ak,.int .i64 x.arity,.slice a x.ah.length c]] w λe w'=>
   e=.returned (.agg (Cm x).toArray)/\Bw w w':=by
 go_enter func205,ntmps205;go_wp2_with (refine EH qi 323 (.tmp 3) (.tmp 8) qi (w.heap.size+1+1) (IM x.ak x.arity (List.replicate 6 zT)) qi qi _ 323 (Eu _ _ _ qe) qi (by rw[Qc];exact Oh) (W_ _ _ _) ?_;intro f t n)
 go_frame
 have g:=n.o;have C:f.cell? ⟨w.heap.size,2,none⟩=some (.slice a x.ah.length c):=by rw[g.cell qg];simp[go_sem]
 obtain⟨b,r,p⟩:∃b:Array Value,f.heap[w.heap.size+1]?=some (.cells b 323 (0,0))/\b.size=38:=
  ⟨_,(g.block _ qd).j ((yV _ _ _ qe).j (Eu _ _ _ qe)),rfl⟩
 have s:Hid (f.heap[w.heap.size+1]?=some (.cells b 323 (0,0))):=r;have E:Hid (b.size=38):=p;clear r p;have A:Bw w f:=((Af.alloc qe _).alloc qg _).j (g.J qd);have u:=hv.J A;have B:f.heap.size=w.heap.size+1+1+1:=by rw[g.size];simp
 have R:Hid (f.heap.size=w.heap.size+1+1+1):=B;clear B n g hv;have O:Nat.min x.ah.length 6=x.ah.length:=by simp[Nat.min_def];omega
 have I:Hid (Nat.min x.ah.length 6=x.ah.length):=O;clear O
 go_region_held3 (λw'=>w'.cell? ⟨w.heap.size,2,none⟩=some (.slice a x.ah.length c)) ((first | (simp[*];done) | (rw[Y.o.cell qg];simp[*])))
  ((refine mM qi (.tmp 10) (.tmp 12) 243 243 qi 320 6 underlying243 rX (w.heap.size+1+1) 2 6 6 a x.ah.length c qi qi _ 323 t.o (x.ah.flatMap Cj) (by rw[I.o,P_]) (λe=>EC.cJ (e▸u)) (λT e=>EC.flat (e▸u)) (by rw[P_];simp[Qc];omega) (Z_ _) ?_;intro i m Y))
 have z:i.heap[w.heap.size+1+1]?=some (.cells (Cm x).toArray 323 (0,0)):=by
  have:=m.o;rw[List.toList_toArray,zmo _ _ _ hl]at this;exact this
 have l:=Y.o;have y:i.heap[w.heap.size+1]?=some (.cells b 323 (0,0)):=(l.block _ qd).j s.o;have d:(Cm x).length=38:=by unfold Cm;rw[Qc,PE _ hl]
 have K:Bw w i:=A.drew.j (l.J qd);have L:Hid (i.heap[w.heap.size+1+1]?=some (.cells (Cm x).toArray 323 (0,0))):=z;have M:Hid (i.heap[w.heap.size+1]?=some (.cells b 323 (0,0))):=y;have k:Hid ((Cm x).length=38):=d;clear m Y l z y d s t C;go_wp2_with (first|(refine Xv qi 323 (.tmp 3) qi (w.heap.size+1+1) (Cm x) qi 323 (0,0) L.o _ underlying323 qi (by rw[k.o];exact Oh) ?_)|(refine EH qi 323 (.tmp 2) (.tmp 14) qi (w.heap.size+1) (Cm x) qi qi b 323 M.o (by rw[k.o];exact E.o) (by rw[k.o];exact Oh) (W_ _ _ _) ?_;intro G N D));have H:=run_loadVar_mid (P:=prog) G (w.heap.size+1) 0 323 (Cm x) _ (L9 N.o) underlying323 rfl (by rw[k.o];exact Oh)
 go_frame
 exact bodyPost_ret (v:=.agg (Cm x).toArray) (by simp[results,results205,asAddr,H]) rfl ⟨rfl,K.j (D.o.J qd)⟩
end
section
open Go.Maps
def pz:(323:TypeId)<prog.types.size:=of_decide_eq_true qf
def tW:(match prog.underlying 323 with|some (.array _ _)|some (.struct _)=>true|_=>false)=true:=qf
def r5:prog.keyType 323=true:=qf
def Ri:Keyed prog 323:=Keyed.of_law (deep_law_laid MC (m:=6) qd pz qf tW)
def iA:prog.cellsOf 323=38:=qf
def fZ:prog.cellsOf 321=36:=qf
def gL:prog.cellsOf 320=6:=qf
def UG:prog.cellsOf 187=3:=qf
def La(t:Tt):Prop:=(Lit.int .i64 t.slot).wf=true/\(Lit.int .i64 t.op).wf=true/\(Lit.int .i64 t.other).wf=true/\C8 t.val
def LM(x:Al):Prop:=x.ak.size<=maxLen/\(Lit.int .i64 x.arity).wf=true/\x.ah.length<=6/\∀t∈x.ah,La t/\t.op≠0
def rB:La zT:=⟨qh,qh,qh,qh,qh,qh⟩
def ZN(d v)(h:C8 v):prog.keyLits (d+2) 187 [.int .i64 v.kind,.int .i64 v.num,.string v.av]=some [.int .i64 v.kind,.int .i64 v.num,.string v.av.data.toList]:=by
 obtain⟨c,a,b⟩:=h;simp[Program.keyLits,underlying187,underlying3,underlying2,underlying9,UG,GZ,UK,JP,c,a,b]
def Ob(d t)(h:La t):∃l,prog.keyLits (d+3) 320 (Cj t)=some l:=by
 obtain⟨g,e,c,f⟩:=h;have a:∀n:Int,(Lit.int .i64 n).wf=true->prog.keyLits (d+2) 3 [.int .i64 n]=some [.int .i64 n]:=λn b=>by simp[Program.keyLits,underlying3,b]
 unfold Program.keyLits;rw[underlying320];simp only[gL];rw[if_pos ⟨qi,Ns⟩];simp only[Cj,Kz,KJ,GZ,UG,WQ,YG,Y7,Ws,a _ g,a _ e,a _ c,ZN d t.val f];exact⟨_,rfl⟩
def pj(d a b c e f g)(q:La a)(r:La b)(p:La c)(n:La e)(o:La f)(m:La g):(prog.keyLits (d+4) 321 ([a,b,c,e,f,g].flatMap Cj)).isSome=true:=by
 obtain⟨s,O⟩:=Ob d a q;obtain⟨lb,j⟩:=Ob d b r;obtain⟨u,k⟩:=Ob d c p;obtain⟨v,i⟩:=Ob d e n;obtain⟨w,Y⟩:=Ob d f o;obtain⟨t,l⟩:=Ob d g m;unfold Cj at O j k i Y l;unfold Program.keyLits;rw[underlying321];simp only[fZ,gL];rw[if_pos qi];simp only[show List.range 6=[0,1,2,3,4,5] by rfl,Kz,KJ];simp only[Cj,yE,YO,Ye,Yj,Nat.zero_mul,KS,WQ,YG,Y7,Ws,O,j,k,i,Y,l];rfl
def py(d a n)(e:a.size<=maxLen)(f:(Lit.int .i64 n).wf=true)(L)(c:L.length=36)(b:(prog.keyLits (d+1) 321 L).isSome=true) :
  (prog.keyLits (d+2) 323 (.string a::.int .i64 n::L)).isSome=true:=by
 obtain⟨l,hl⟩:=WN.1 b;have hS:prog.keyLits (d+1) 9 [.string a]=some [.string a.data.toList]:=by simp[Program.keyLits,underlying9,e]
 have i:prog.keyLits (d+1) 3 [.int .i64 n]=some [.int .i64 n]:=by simp[Program.keyLits,underlying3,f]
 have g:L.take 36=L:=yu qd;unfold Program.keyLits;rw[underlying323];simp only[iA];rw[if_pos ⟨by simp[c],Ns⟩];simp only[Kz,KJ,JP,GZ,fZ,WQ,YG,Y7,Ws,hS,i,g,hl];rfl
def uu(d n)(k:d.size<=maxLen)(j:(Lit.int .i64 n).wf=true)(ts)(hl:ts.length=6)(hv:∀t∈ts,La t):∃l,keyOf prog 323 (.agg (IM d n ts).toArray)=some l:=by
 match ts,hl with
 |[a,b,c,e,f,g],_=>
  have m:=pj (prog.types.size-4) a b c e f g (hv _ qe) (hv _ qe) (hv _ qe) (hv _ qe) (hv _ qe) (hv _ qe);have p:4<=prog.types.size:=of_decide_eq_true qf;have i:=py (prog.types.size-4+3) d n k j _ qi m;rw[show prog.types.size-4+3+2=prog.types.size+1 by omega]at i;have O:(Value.agg (IM d n [a,b,c,e,f,g]).toArray).formed prog 323=true:=by
   simp[Value.formed,underlying323,iA,Qc]
  unfold keyOf;rw[underlying323];simp only[r5,O,KK,if_true];obtain⟨o,Y⟩:=WN.1 i;show∃l,(prog.keyLits (prog.types.size+1) 323 (.string d::I6 n::[a,b,c,e,f,g].flatMap Cj)).map _=some l;rw[Y];exact⟨_,rfl⟩
def kc:∀(a vs:List Tt),a.length=vs.length->a.flatMap Cj=vs.flatMap Cj->a=vs
 |[],[],_,_=>rfl
 |[],_::_,h,_=>by simp at h
 |_::_,[],h,_=>by simp at h
 |u::a,v::vs,h,e=>by
  simp only[yE,Cj,Ye,Yj,Yh,KY,Km,true_and]at e
  obtain⟨c,b,d,g,i,Y,O⟩:=e
  have f:=kc a vs qq O
  rw[f,Tt.bB (x:=u) (y:=v) (by simp only[Tt.bA,c,b,d,g,i,Y])]
def sk{x}(h:LM x):∃l,keyOf prog 323 (.agg (Cm x).toArray)=some l:=by
 obtain⟨e,b,d,c⟩:=h;refine uu x.ak x.arity e b (GF x.ah) (PE _ d) ?_;intro t a;rcases yr.1 a with a|a
 .exact(c t a).1
 rw[WO a];exact rB
def Mr(kl:Al->Lit):Prop:=∀x,LM x->keyOf prog 323 (.agg (Cm x).toArray)=some (kl x)
def Mr.bV:∃a,Mr a:=
 ⟨λx=>(keyOf prog 323 (.agg (Cm x).toArray)).getD (.bool false),λx h=>by
  obtain⟨l,hl⟩:=sk h
  simp only[hl,YY]⟩
def Qx(t:Tt):Bool:=!(t.op==0)
def kB{ts}(h:∀t∈ts,t.op≠0):(GF ts).filter Qx=ts:=by simp_all[Qx,zT,GF]
def gS{d}(K:Mr d){x y}(b:LM x)(c:LM y)(h:d x=d y):x=y:=by
 have e:=Ri.inj (K x b) (h▸K y c);simp only[Value.agg.injEq]at e;have O:Cm x=Cm y:=by simpa using congrArg Array.toList e
 unfold Cm IM at O;simp only[Yh,Km,KY,true_and]at O;obtain⟨g,f,i⟩:=O;have j:=kc _ _ (by rw[PE _ b.2.2.1,PE _ c.2.2.1]) i;have a:x.ah=y.ah:=by rw[<-kB (λt a=>(b.2.2.2 t a).2),<-kB (λt a=>(c.2.2.2 t a).2),j]
 obtain⟨x1,l,Y⟩:=x;obtain⟨m,n,k⟩:=y;simp only at g f a;subst g f a;rfl
def Bx(v:Value):Option (DataW Unit × List MemPlace):=
 match v with
 |.pointer (some ⟨b,0,none⟩)=>some (.lit (.int .i64 (b:Int)),[])
 |.pointer none=>some (.lit (.bool false),[])
 |_=>none
def fW(b):Bx (.pointer (some ⟨b,0,none⟩))=some (.lit (.int .i64 (b:Int)),[]):=rfl
def ik{v}{b:Nat}{a}(h:Bx v=some (.lit (.int .i64 (b:Int)),a)):v=.pointer (some ⟨b,0,none⟩):=by
 unfold Bx at h;split at h
 .rename_i O;simp at h;have e:O=b:=qd;rw[e]
 .simp at h
 cases h
def zP:DataW Unit:=.lit (.bool false)
structure NZ(kl:Al->Lit) (A:List Al) (bs:List Nat) (D:DataW Unit):Prop where
 len:bs.length=A.length
 cC:∀x b,LM x->bs[DI x A]?=some b->has D (kl x)=true/\D.atKey (kl x) zP=.lit (.int .i64 (b:Int))
 no:∀x,LM x->¬DI x A<A.length->has D (kl x)=false
def NZ.start(a):NZ a [] [] (.map []):=⟨rfl,λx b _ h=>by simp at h,λx _ _=>by simp[has]⟩
def V6(x y):∀A:List Al,DI x (A++[y])=if DI x A<A.length then DI x A else if N6 y x then A.length else A.length+1
 |[]=>by simp[DI]
 |z::r=>by
  simp only[Ye,DI,yH]
  split
  .simp
  rw[V6 x y r]
  by_cases a:DI x r<r.length
  .rw[if_pos a,if_pos (show DI x r+1<r.length+1 by omega)]
  rw[if_neg a,if_neg (show¬DI x r+1<r.length+1 by omega)]
  split<;>rfl
def NZ.add{d}(K:Mr d){A l D y}{b:Nat}(h:NZ d A l D)(m:IsMap D)(k:LM y)(n:¬DI y A<A.length):NZ d (A++[y]) (l++[b]) (D.put (d y) (.lit (.int .i64 (b:Int)))):=by
 have Y:WideAt.IsKeyLit (d y):=Ri.key (K y k);have a:=h.len;refine⟨by simp[a],λx o j f=>?_,λx j O=>?_⟩
 .rw[V6]at f;by_cases g:DI x A<A.length
  .rw[if_pos g,yB qd]at f;have c:d x≠d y:=λe=>n (by rw[<-gS K j k e];exact g);rw[has_put_other c,atKey_put_other c];exact h.cC x o j f
  rw[if_neg g]at f;by_cases i:N6 y x=true
  .rw[if_pos i,yF qd,a,W7]at f;simp at f;subst f;have e:=Vo.1 i;subst e;exact⟨has_put_same m Y _,atKey_put_same m Y _ _⟩
  rw[if_neg i,yF qd,a,Nat.add_sub_cancel_left]at f;simp at f
 rw[V6]at O;by_cases g:DI x A<A.length
 .rw[if_pos g]at O;simp at O;omega
 rw[if_neg g]at O;by_cases i:N6 y x=true
 .rw[if_pos i]at O;simp at O
 have c:d x≠d y:=λe=>i (Vo.2 (gS K j k e).ai);rw[has_put_other c];exact h.no x j g
end
section
attribute [local go_sem ↓] wp_at_zero wp_at_succ
def Nk{P:Prop}(h:P:=by refine r1 5 λK hK=>?_;go_simp;(go_at_call 106;refine(hIs.o _ _ ?_).ac ?_;(first|exact rS _ _ _ (by simp)|exact ry _ _ _ _ (by simp));rintro e' w' ⟨rfl,rfl⟩);(try go_wp2_with fail);refine hK.o _ _ (by((try dsimp only);(go_split_ands;refine⟨?_,?_,?_,?_,?_,?_,?_,?_⟩<;>first|(simp[go_sem];done)|exact zab hb' (by assumption)))) λhHeld=>?_;clear hK K;(try simp only[pA,pZ,pS,pN]);refine sr 6 40 ?_;first|(refine r1 15 λK hK=>?_;go_simp;(go_at_call 267;refine(hZ.o _).ac ?_;rintro e' w' ⟨rfl,hb'⟩);(try go_wp2_with fail);refine hK.o _ _ (by((try dsimp only);(go_split_ands;refine⟨?_,?_,?_,?_,?_,?_,?_,?_⟩<;>first|(simp[go_sem];done)|exact zab hb' (by assumption)))) λhHeld=>?_;clear hK K;(try simp only[pA,pZ,pS,pN]);refine sr 16 40 ?_;refine wpAnyH_done (by kernel_rfl) ?_ _;refine Yf ?_;first|(go_wp2;go_ret;first|exact⟨rfl,B3 _ _ _⟩|exact⟨rfl,(B3 _ _ _).j (hb'.ac (by simp;omega))⟩)|(obtain⟨y0,y1,y2,y3,y4,y5,Y,y7⟩:=hHeld;have O:Bw w w':=(B3 _ _ _).j (hb'.ac (by simp;omega));have hE:=Aa (hv0.J O);clear hb' hv0;go_wp2;go_quiet (first|(go_at_call 236;refine Wf (hF.o _ (hE.o.J ?_));exact Fo Aj)|(go_at_call 269;refine Wf (hDp.o _ (hE.o.J ?_));exact Fo Aj));go_wp2;go_ret;first|exact⟨rfl,Fo O⟩|exact⟨AE (by simp;omega),Fo O⟩))|(refine wpAnyH_done (by kernel_rfl) ?_ _;refine Yf ?_;first|(go_wp2;go_ret;first|exact⟨rfl,B3 _ _ _⟩|exact⟨rfl,(B3 _ _ _).j (hb'.ac (by simp;omega))⟩)|(obtain⟨y0,y1,y2,y3,y4,y5,Y,y7⟩:=hHeld;have O:Bw w w':=(B3 _ _ _).j (hb'.ac (by simp;omega));have hE:=Aa (hv0.J O);clear hb' hv0;go_wp2;go_quiet (first|(go_at_call 236;refine Wf (hF.o _ (hE.o.J ?_));exact Fo Aj)|(go_at_call 269;refine Wf (hDp.o _ (hE.o.J ?_));exact Fo Aj));go_wp2;go_ret;first|exact⟨rfl,Fo O⟩|exact⟨AE (by simp;omega),Fo O⟩))):P:=h
def J8{P:Prop}(h:P:=by go_enter func234,ntmps234;go_wp2;clear c0 c1 c2 c3 c4 c5 c6 c7 he h1;(try clear h2);(try clear h3);refine wp_region_noPanic ?_;refine wp_region_held_drew (S:=(λw'=>At w' w.heap.size 0 (I6 2)/\At w' w.heap.size 1 (.int .u8 e.op)/\At w' w.heap.size 2 (.string e.var)/\At w' w.heap.size 3 (I6 e.val.kind)/\At w' w.heap.size 4 (I6 e.val.num)/\At w' w.heap.size 5 (.string e.val.av)/\At w' w.heap.size 6 (I6 e.a)/\At w' w.heap.size 7 (I6 e.b))) (by kernel_rfl) (by((try dsimp only);(go_split_ands;refine⟨?_,?_,?_,?_,?_,?_,?_,?_⟩<;>first|(simp[go_sem];done)|exact zab hb' (by assumption)))) (λhHeld=>?_);refine sr 0 2 ?_;refine r2 2 4 (λK hK=>?_) λK hK=>?_;(go_simp;refine hK.o _ _ (by((try dsimp only);(go_split_ands;refine⟨?_,?_,?_,?_,?_,?_,?_,?_⟩<;>first|(simp[go_sem];done)|exact zab hb' (by assumption)))) λhHeld=>?_;clear hK K;(try simp only[pA,pZ,pS,pN]);refine r2 3 4 (λK hK=>?_) λK hK=>?_;(go_simp;refine hK.o _ _ (by((try dsimp only);(go_split_ands;refine⟨?_,?_,?_,?_,?_,?_,?_,?_⟩<;>first|(simp[go_sem];done)|exact zab hb' (by assumption)))) λhHeld=>?_;clear hK K;(try simp only[pA,pZ,pS,pN]);refine r1 4 λK hK=>?_;go_simp;(go_at_call 268;refine(Xp _).ac ?_;rintro O w' ⟨rfl,rfl⟩);(try go_wp2_with fail);refine hK.o _ _ (by((try dsimp only);(go_split_ands;refine⟨?_,?_,?_,?_,?_,?_,?_,?_⟩<;>first|(simp[go_sem];done)|exact zab hb' (by assumption)))) λhHeld=>?_;clear hK K;(try simp only[pA,pZ,pS,pN]);exact Nk);go_simp;(go_at_call 268;refine(Xp _).ac ?_;rintro O w' ⟨rfl,rfl⟩);(try go_wp2_with fail);refine hK.o _ _ (by((try dsimp only);(go_split_ands;refine⟨?_,?_,?_,?_,?_,?_,?_,?_⟩<;>first|(simp[go_sem];done)|exact zab hb' (by assumption)))) λhHeld=>?_;clear hK K;(try simp only[pA,pZ,pS,pN]);refine r1 3 λK hK=>?_;go_simp;refine hK.o _ _ (by((try dsimp only);(go_split_ands;refine⟨?_,?_,?_,?_,?_,?_,?_,?_⟩<;>first|(simp[go_sem];done)|exact zab hb' (by assumption)))) λhHeld=>?_;clear hK K;(try simp only[pA,pZ,pS,pN]);exact Nk);go_simp;(go_at_call 268;refine(Xp _).ac ?_;rintro O w' ⟨rfl,rfl⟩);(try go_wp2_with fail);refine hK.o _ _ (by((try dsimp only);(go_split_ands;refine⟨?_,?_,?_,?_,?_,?_,?_,?_⟩<;>first|(simp[go_sem];done)|exact zab hb' (by assumption)))) λhHeld=>?_;clear hK K;(try simp only[pA,pZ,pS,pN]);refine r1 2 λK hK=>?_;go_simp;refine hK.o _ _ (by((try dsimp only);(go_split_ands;refine⟨?_,?_,?_,?_,?_,?_,?_,?_⟩<;>first|(simp[go_sem];done)|exact zab hb' (by assumption)))) λhHeld=>?_;clear hK K;(try simp only[pA,pZ,pS,pN]);refine r1 3 λK hK=>?_;go_simp;refine hK.o _ _ (by((try dsimp only);(go_split_ands;refine⟨?_,?_,?_,?_,?_,?_,?_,?_⟩<;>first|(simp[go_sem];done)|exact zab hb' (by assumption)))) λhHeld=>?_;clear hK K;(try simp only[pA,pZ,pS,pN]);exact Nk):P:=h
def Hi(i:Nat)(x p0 p1 p2:Value):Array Value:=#[if i=0 then x else p0,if i=1 then x else p1,if i=2 then x else p2]
def X9{P:Prop}(h:P:=by exact(((B0.o.setCell (by simp) _).setCell (by simp) _).setCell (by simp) _).setCell (by simp) _):P:=h
def SQ(c b a x)(i:Nat)(w)(p:i<3) :
  Ca 114 #[.agg #[.pointer c,.pointer b,.pointer a],I6 (i:Int),.pointer x] w λe w'=>e=.returned (.agg (Hi i (.pointer x) (.pointer c) (.pointer b) (.pointer a)))/\Bw w w':=by
 go_enter func114,ntmps114;go_upto_region 1 with fail;refine Bo ?_;intro w0 g Y O;have d:∀j,w0.frozen? ⟨w.heap.size,j,none⟩=false:=λj=>by simp[World.frozen?,Y]
 have f:∀j,w0.frozen? ⟨w.heap.size+1,j,none⟩=false:=λj=>by simp[World.frozen?,O]
 obtain⟨s,y,u⟩:=Ao Y;obtain⟨n,t,l⟩:=Ao O;have x0:=d 0;have x1:=d 1;have m:=d 2;have k:=f 0;have q:=f 1;have r:=f 2;have B0:=Aa g;have hl:w.heap.size+1<w0.heap.size:=As O;clear g Y O d f;rcases i with _|_|_|i
 .go_wp2_with fail;refine bodyPost_ret (v:=.agg (Hi 0 (.pointer x) (.pointer c) (.pointer b) (.pointer a))) Zk rfl ⟨rfl,?_⟩;exact X9
 .go_wp2_with fail;refine bodyPost_ret (v:=.agg (Hi 1 (.pointer x) (.pointer c) (.pointer b) (.pointer a))) Zk rfl ⟨rfl,?_⟩;exact X9
 .go_wp2_with fail;refine bodyPost_ret (v:=.agg (Hi 2 (.pointer x) (.pointer c) (.pointer b) (.pointer a))) Zk rfl ⟨rfl,?_⟩;exact X9
 omega
end
end Go.Proofs.YtikojfajahnhgaaGreat
