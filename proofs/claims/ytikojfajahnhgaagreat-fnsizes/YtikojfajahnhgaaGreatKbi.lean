import Derived.Test.YtikojfajahnhgaaGreatProg
import Derived.Test.YtikojfajahnhgaaGreatKbe
set_option linter.all false
set_option maxHeartbeats 1600000
set_option maxRecDepth 100000
namespace Go.Proofs.YtikojfajahnhgaaGreat
attribute [local simp] At I6 Pn mzI
attribute [local go_sem] At I6 Pn
open Go.RowKit Go.Proofs.Tryz
variable{P:Prop}
section
open Go.Deep
section
variable {H : Type} {enc : TypeId × Value -> H} {w : World} {base : Nat} {spare : Nat -> Bool} {held : Bool}
def tO{α:Type}(d:α){R:World->List Value->α->Prop}{Ok:α->Prop}(t e T:TypeId)(m:Nat)(C:prog.underlying t=some (.slice e))(Y:prog.cellsOf e=m)(ax:0<m)
  (each:∀(n:Nat)(cs:List Value)(x:DataW H × List MemPlace),DataW.trod enc prog w base spare held n e cs=some x->cs.length=m->∃v:α,R w cs v/\Ok v)
  {n:Nat}{cs:List Value}{x:DataW H × List MemPlace} (h:DataW.trod enc prog w base spare held n t cs=some x) :
  ∃a c,∃vs:List α,cs=[.slice a vs.length c]/\Cr R none T m w a vs/\vs.length<=c/\vs.length<=maxLen/\∀v∈vs,Ok v:=by
 rcases open_slice C h with⟨rfl,_⟩|⟨a,len,cap,G,k,D,Pl,rfl,_,hl,hm,B,_,M⟩
 .exact⟨none,0,[],rfl,Cr.nil,yk _,yk _,λv hv=>by simp at hv⟩
 have aw:len<=G:=by rw[B];split<;>omega
 have one:∀i,i<len->∃v:α,(∃r,r.length=m/\(∀j u,r[j]?=some u->w.cell? (a.add (i*m+j))=some u)/\R w r v)/\Ok v:=by
  intro i y;obtain⟨E,q,W⟩:=M i qd;rw[Y]at q;obtain⟨_,g,O⟩:=World.cells?_some q;obtain⟨v,p,A⟩:=each _ _ _ W g;refine⟨v,⟨E,g,λj u hj=>?_,p⟩,A⟩;have ao:j<m:=by rw[<-g];exact(ye.1 hj).1
  have:=O j ao;rw[add_add]at this;rw[this,hj]
 have:Nonempty (Inhabited α):=⟨⟨d⟩⟩
 obtain⟨au⟩:=this;obtain⟨f,l⟩:=choose_lt one;refine⟨some a,cap,(List.range len).map f,qe,?_,qf,qf,?_⟩
 .intro i v hv;obtain⟨U,rfl⟩:=zkD hv;obtain⟨⟨r,N,z,p⟩,_⟩:=l i U;obtain⟨b,o,I⟩:=a;obtain⟨⟨s,ar,K,_⟩,_⟩:=l 0 qd;obtain⟨u0,Z⟩:∃u,s[0]?=some u:=⟨s[0]'(by omega),qe⟩
  obtain⟨u1,J⟩:∃u,r[0]?=some u:=⟨r[0]'(by omega),qe⟩
  have L:I=none:=zm (by simpa using K 0 u0 Z) (z 0 u1 J);subst L;refine⟨b,o,r,rfl,Qb.ah _ _ _,N,λj u hj=>?_,p⟩;have:=z j u hj;rw[Wl]at this;rwa [WT]
 intro v hv;obtain⟨i,y,rfl⟩:=yz.1 hv;exact(l i (List.mem_range.1 y)).2
end
end
def S1{n}(b:-9223372036854775808<=n)(a:n<=9223372036854775807):(Lit.int .i64 n).wf=true:=by
 simp[Lit.wf,IntKind.min,IntKind.max,IntKind.signed,IntKind.bits];omega
def pC(h:P:=by
 have h1:(s.toList==(⟨#[]⟩:ByteArray).toList)=true:=by
  have:s.toList=[]:=by simpa using h
  rw[this,show(⟨#[]⟩:ByteArray).toList=[] by decide +kernel];rfl
 rw[EZ]at h1;simpa using h1
 ):=h
def zkS{s:ByteArray}(h:s.toList.isEmpty=true):s=⟨#[]⟩:=by
 exact pC
def oF(h:P:=by
 rcases h.2 with⟨_,h1⟩|⟨g,cap,O,hv,_,_,hn,_⟩
 .omega
 cases hv
 exact hn
 ):=h
def VJ{w:World}{base e m a n c xs}(h:w.ownsRow base e m (.slice a n c) n xs):n<=c:=by
 exact oF
def mE{e}:∀{l:List MapEntry}{i:Nat},l[i]?=some e->(l.map (·.born)).Nodup->l.eraseIdx i=l.filter (λz=>!(z.born==e.born))
 |[],i,h,_=>by simp at h
 |z::r,0,h,hn=>by
  simp at h
  subst h
  rw[yq,y9]at hn
  rw[K8,yJ (by simp)]
  refine(Yk.2 λy a=>?_).y
  simp only[WG,beq_eq_false_iff_ne,ne_eq]
  exactλq=>hn.1 (q▸yU a)
 |z::r,i+1,h,hn=>by
  have O:r[i]?=some e:=qq
  rw[yq,y9]at hn
  rw[Wa,mE O hn.2,yD]
  simp only[WG,beq_eq_false_iff_ne,ne_eq]
  exactλq=>hn.1 (q▸yU (yd O))
def mK{es:List MapEntry}{e:MapEntry}{x}(d:∀z∈es,(z.born=e.born↔z.key=e.key))(O:AM x=e.key):∀{A:List MapEntry}{T:List Kt},(∀z∈A,z∈es)->A.map (·.key)=T.map AM->(A.filter (λz=>!(z.born==e.born))).map (·.key)=(T.filter (λy=>decide (y≠x))).map AM
 |[],[],_,_=>rfl
 |[],_::_,_,h=>by simp at h
 |_::_,[],_,h=>by simp at h
 |z::A,t::T,hA,hT=>by
  simp only[yq,Yu]at hT
  have b:=mK d O (λy hy=>hA y Jc) hT.2
  have a:=d z (hA z qe)
  by_cases q:z.born=e.born
  .have:t=x:=MT (hT.1.y.c ((a.1 q).c O.y))
   rw[yJ (by simp[q]),yJ (by simp[this])]
   exact b
  have:t≠x:=λk=>q (a.2 (by rw[hT.1,k,O]))
  rw[yD (by simp[q]),yD (by simp[this]),yq,yq,b,hT.1]
def A3.sub{w b r L a}(h:A3 w b r L a):∀y∈a,y∈L.map Prod.fst:=λy j=>by
 obtain⟨es,d,since,seen,u,B,l,q,p,t,v,s,A,m⟩:=h.N;have k:AM y∈(leftOf es seen).toList.map (·.key):=by rw[m];exact yU j
 obtain⟨e,f,o⟩:=yz.1 k;have n:e∈es.toList:=by
  simp only[leftOf,WQ,yf]at f;exact f.1
 have g:(e.key,e.val)∈L.map (λx=>(AM x.1,x.2)):=by
  rw[<-show es.toList.map (λe=>(e.key,e.val))=L.map (λx=>(AM x.1,x.2)) from l];exact yz.2 ⟨e,n,rfl⟩
 obtain⟨z,i,O⟩:=yz.1 g;simp only[YO]at O;rw[MT (o.y.c O.1.y)];exact yU i
section
variable {P : Program} {kt pt ft : TypeId} (H : Ur P kt pt ft) {w : World}
def ut{mt et ty t2:TypeId}(hm:P.underlying mt=some (.map kt et)){b:Nat}{L:List (Kt × Value)}(h:Ag w b L){x:Kt}(hx:AG w x):∃w',(Builtin.delete_ #[mt,t2] ty #[.map (some b),AM x]).run P w=.ok (.tuple #[]) w'/\Ag w' b (Dx x L)/\Bg (some b) w w'/\∀r a,A3 w b r L a->A3 w' b r (Dx x L) (a.filter (λy=>decide (y≠x))):=by
 obtain⟨es,c,hb,he,o,G⟩:=h.N;have hf:=P7 H hx he h.ok;have au:(es.toList.map (·.key)).Nodup:=by
  have v:es.toList.map (·.key)=(L.map Prod.fst).map AM:=by
   exact oy
  rw[v];exact X9 (λ_ _ h=>MT h) h.nd
 have I:∀(O:Array MapEntry),(Builtin.delete_ #[mt,t2] ty #[.map (some b),AM x]).run P w=.ok (.tuple #[]) { w with heap:=w.heap.setIfInBounds b (.map O c) }->EH O.toList (Dx x L)->(O.toList.map (·.born)).Nodup->(∀e∈O.toList,e∈es.toList)->(∀(seen:Array Nat)(a:List Kt),(leftOf es seen).toList.map (·.key)=a.map AM->(∀y∈a,y∈L.map Prod.fst)->(leftOf O seen).toList.map (·.key)=(a.filter (λy=>decide (y≠x))).map AM)->∃w',(Builtin.delete_ #[mt,t2] ty #[.map (some b),AM x]).run P w=.ok (.tuple #[]) w'/\Ag w' b (Dx x L)/\Bg (some b) w w'/\∀r a,A3 w b r L a->A3 w' b r (Dx x L) (a.filter (λy=>decide (y≠x))):=by
  intro O hr f R B Y;have K:Bg (some b) w { w with heap:=w.heap.setIfInBounds b (.map O c) }:=Bg.put _;have g:({ w with heap:=w.heap.setIfInBounds b (.map O c) }:World).heap[b]?=some (.map O c):=by
   exact TW
  have l:∀y∈Dx x L,AG { w with heap:=w.heap.setIfInBounds b (.map O c) } y.1:=λy t=>(h.ok y (yf.1 t).1).ar K h.nc;refine⟨_,hr,⟨⟨O,c,g,f,R,λe d=>G e (B e d)⟩,VV h.nd,l⟩,K,λr a T=>?_⟩;obtain⟨ay,aq,since,seen,c0,D,g2,g3,g4,A,g6,g7,g8,g9⟩:=T.N;rw[hb]at D;cases D;have W:r≠b:=λe'=>by rw[e',hb]at A;simp at A
  refine⟨⟨O,c,since,seen,c0,g,f,R,λe d=>G e (B e d),?_,λe d=>g6 e (B e d),g7,g8,Y seen a g9 T.sub⟩,VV h.nd,l⟩;show(w.heap.setIfInBounds b _)[r]?=_;rw[Y5 (KK W)];exact A
 cases j:Dh x L 0 with
 |none=>
  rw[j]at hf;refine I es qI (by rw[jR (Xa j)];exact he) o (λ_ h=>h) (λseen a C hs=>?_);rw[C];have:a.filter (λy=>decide (y≠x))=a:=Yk.2 λy t=>by
   simp only[ne_eq,decide_eq_true_eq];rintro rfl;have E:=PU y L 0;rw[j]at E;have f:=M7.2 (hs y t);rw[<-E]at f;cases f
  rw[this]
 |some p=>
  obtain⟨i,u⟩:=p;rw[j]at hf;obtain⟨k,M,U⟩:=Qg j;rw[Yc]at M;subst M;obtain⟨m,n,ax,az⟩:=RX he U;have J:i<es.size:=by have:=(ye.1 n).1;simpa using this
  have s:(es.eraseIdxIfInBounds i).toList=es.toList.filter (λz=>!(z.born==m.born)):=by
   rw[Array.eraseIdxIfInBounds,dif_pos J,Wi];exact mE n o
  have Z:∀z∈es.toList,(z.born=m.born↔z.key=m.key):=λz hz=>
   ⟨λq=>by rw[Oz o hz (yd n) q],λq=>by rw[Oz au hz (yd n) q]⟩
  refine I (es.eraseIdxIfInBounds i) qI ?_ ?_ (λe d=>?_) (λseen a C _=>?_)
  .rw[<-Xd h.nd U];have d:es.toList.map (λe=>(e.key,e.val))=L.map (λx=>(AM x.1,x.2)):=he;show List.map _ _=List.map _ _;rw[Array.eraseIdxIfInBounds,dif_pos J,Wi,Wb,Wb,d]
  .rw[s];exact o.sublist ((YR).map _)
  .rw[s]at d;exact(yf.1 d).1
  have v:(leftOf (es.eraseIdxIfInBounds i) seen).toList=(leftOf es seen).toList.filter (λz=>!(z.born==m.born)):=by
   simp only[leftOf,WQ];rw[s,Yq,Yq];refine YK λz _=>?_;rw[Bool.and_comm]
  rw[v];exact mK Z ax.y (λz hz=>pq) C
end
section
variable {C F : Type} {neg : C -> Bool} {lets : C -> List F -> F -> Bool}
def wZ{α β:Type}{f g:α->List β}{l m:List α}(h:l.Perm m)(a:∀x∈l,(f x).Perm (g x)):(l.flatMap f).Perm (m.flatMap g):=by
 have b:(l.flatMap f).Perm (l.flatMap g):=by
  clear h
  induction l with
  |nil=>exact .refl _
  |cons x r O=>
   rw[yL,yL];exact(a x qe).append (O λy hy=>a y Jc)
 exact b.c (h.flatMap_right g)
def m_{α β:Type}(f g:α->List β):∀l:List α,(l.flatMap (λx=>f x++g x)).Perm (l.flatMap f++l.flatMap g)
 |[]=>.refl _
 |x::r=>by
  simp only[yL]
  have O:=m_ f g r
  refine((YZ (f x++g x)).append O).c ?_
  rw[yW,yW]
  refine(YZ (f x)).append ?_
  rw[<-yW,<-yW]
  exact(Km).append (.refl _)
def XI{α β:Type}{f:α->List β}:∀{l:List α},l.Nodup->(∀x∈l,(f x).Nodup)->(∀x∈l,∀y∈l,x≠y->∀z,z∈f x->z ∉ f y)->(l.flatMap f).Nodup
 |[],_,_,_=>by simp
 |x::r,h,h1,h2=>by
  rw[yL,yK]
  rw[y9]at h
  refine⟨h1 x (by simp),XI h.2 (λy hy=>h1 y (by simp[hy])) (λa c b d O=>h2 a (by simp[c]) b (by simp[d]) O),?_⟩
  intro a c b d e
  subst e
  obtain⟨y,hy,g⟩:=Yo.1 d
  exact h2 x qe y Jc (λe=>h.1 (e▸hy)) a c g
end
def Cm(t:Tt):List Value:=[.int .i64 t.Y,.int .i64 t.op,.int .i64 t.other,.int .i64 t.val.u,.int .i64 t.val.num,.string t.val.J]
def Qv:∀S:List Tt,(S.flatMap Cm).length=S.length*6
 |[]=>rfl
 |s::r=>by rw[yL,yP,Qv r];simp[Cm];omega
def V7:∀(S:List Tt)(i:Nat)(s:Tt)(j:Nat)(v:Value),S[i]?=some s->(Cm s)[j]?=some v->(S.flatMap Cm)[i*6+j]?=some v
 |[],i,s,j,v,h,_=>by simp at h
 |x::r,0,s,j,v,h,hj=>by
  simp at h
  subst h
  have hl:j<(Cm x).length:=(ye.1 hj).1
  rw[yL,yr qd]
  simpa using hj
 |x::r,i+1,s,j,v,h,hj=>by
  have:=V7 r i s j v qq hj
  rw[yL,yx (by simp[Cm];omega),show(i+1)*6+j-(Cm x).length=i*6+j by simp[Cm];omega]
  exact this
def E9.owns{w base n a c S}(h:w.ownsRow base 320 6 (.slice a n c) n (S.flatMap Cm)):E9 none w a S:=by
 intro i s b;obtain⟨g,rfl,_,_,_⟩:=BM h (V7 S i s 0 _ b rfl);refine⟨g,0,Cm s,rfl,Qb.ah _ _ _,rfl,?_,rfl⟩;intro j v hj;obtain⟨d,O,_,e,_⟩:=BM h (V7 S i s j v b hj);cases O;rwa [Yc]
def QA(s):∀u∈Cm s,u.oneCell'=true:=by
 intro u hu;simp[Cm]at hu;rcases hu with rfl|rfl|rfl|rfl|rfl|rfl<;>rfl
def SC:(prog.info? 320).map (λi=>(i.zero,i.size,i.bytes))=some (some (.agg #[I6 0,I6 0,I6 0,I6 0,I6 0,.string ⟨#[]⟩]),6,56):=qg
def C3(w:World)(b:Nat)(x0 x1 x2:Value):Prop:=w.cell? ⟨b,0,none⟩=some x0/\w.cell? ⟨b,1,none⟩=some x1/\w.cell? ⟨b,2,none⟩=some x2/\w.frozen? ⟨b,0,none⟩=false/\w.frozen? ⟨b,1,none⟩=false/\w.frozen? ⟨b,2,none⟩=false
def C3.aq{w w' b B x0 x1 a}(h:C3 w b x0 x1 a)(d:Below B w w')(c:b<B):C3 w' b x0 x1 a:=by
 obtain⟨f,j,g,i,O,k⟩:=h;have e:=d.block b c;refine⟨?_,?_,?_,?_,?_,?_⟩<;>simp only[World.cell?,World.frozen?,e]<;>assumption
def C3.lt{w b x0 x1 c}(h:C3 w b x0 x1 c):b<w.heap.size:=by
 by_cases a:b<w.heap.size
 .exact a
 have:w.heap[b]?=none:=Kd qd;have O:=h.1;simp[World.cell?,this]at O
def C3.d{w w' b x0 x1 a}(h:C3 w b x0 x1 a)(c:Bw w w'):C3 w' b x0 x1 a:=h.aq c h.lt
def C3.aF(w:World)(t x0 x1 a):C3 (w.alloc (.cells #[x0,x1,a] t)) w.heap.size x0 x1 a:=by
 refine⟨?_,?_,?_,?_,?_,?_⟩<;>simp[go_sem]
def C3.dW{w b x0 x1 a}(h:C3 w b x0 x1 a)(y):C3 (w.setCell ⟨b,2,none⟩ y) b x0 x1 y:=by
 have hl:=h.lt;obtain⟨f,e,c,d,O,g⟩:=h;refine⟨?_,?_,?_,?_,?_,?_⟩<;>simp[go_sem, *]
def VX{d wr b B x0 x1 v t O m a xs}(k:C3 wr B x0 x1 v)(e:Below (B+1) wr b)(f:b.ownsRow (B+1) t 6 (.slice O m a) m xs)(i:Below B d wr) :
  C3 (b.setCell ⟨B,2,none⟩ (.slice O m a)) B x0 x1 (.slice O m a)/\(b.setCell ⟨B,2,none⟩ (.slice O m a)).ownsRow (B+1) t 6 (.slice O m a) m xs/\Below B d (b.setCell ⟨B,2,none⟩ (.slice O m a)):=by
 refine⟨(k.aq e qd).dW _,Bv f (λg l=>?_),(i.c (e.j qd)).setCell qe _⟩;have:=(f.lt g l).1;exact yE _ _ _ _ qf
def zmL{s:ByteArray}(h:s.toList.isEmpty=true):s=⟨#[]⟩:=by
 exact pC
def jZ{v}(h:Cc v=true):v=I8:=by
 simp only[Cc,BG,yi,beq_iff_eq]at h;obtain⟨O,c,a⟩:=h;have b:=zmL a;exact Prod.ext O (Prod.ext c b)
def vg{t}(h:CY t=true)(hv:t.A.toList.isEmpty=false):t.val=I8:=by
 have a:BG t.A=false:=hv;unfold CY Md at h;rw[a]at h;split at h
 .simp at h
 split at h
 .simp at h
 split at h
 .simp only[yi]at h;exact jZ h.2.2
 split at h
 .simp only[WH,Bool.false_or,yi]at h;exact jZ h.2.2.2
 cases h
def ib{p}(h:C_ p=true){i:Nat}{t}(a:p.e[i]?=some t):CY t=true:=by
 simp only[C_,yi]at h;exact Yy.1 h.2.2 t (yd a)
def Vg{p}(h:C_ p=true):p.e.length<=6:=by
 simp only[C_,yi,decide_eq_true_eq]at h;exact h.2.1
def zoZ{ts k t}(h:ts[k]?=some t):BL ts (k+1)=BL ts k++(EM ts k t).toList:=by
 simp[BL,h]
def S0(ts):∀k,(BL ts k).length<=k
 |0=>yu _
 |k+1=>by
  have:=S0 ts k
  unfold BL
  rw[yP]
  cases ts[k]? with
  |none=>simp;omega
  |some t=>cases h:EM ts k t<;>simp[h]<;>omega
def Tt.bj(t:Tt):Int × Int × Int × Int × Int × ByteArray:=(t.Y,t.op,t.other,t.val.u,t.val.num,t.val.J)
def Al.bj(x:Al):ByteArray × Int × List (Int × Int × Int × Int × Int × ByteArray):=(x.z,x.aa,x.x.map Tt.bj)
def Tt.bk{x y:Tt}(h:x.bj=y.bj):x=y:=by
 obtain⟨a1,d,i,e,f,a⟩:=x;obtain⟨c,b,g,O,j,k⟩:=y;simp only[Tt.bj,V.u,V.num,V.J,YO]at h;obtain⟨rfl,rfl,rfl,rfl,rfl,rfl⟩:=h;rfl
def jB:∀{xs ys:List Tt},xs.map Tt.bj=ys.map Tt.bj->xs=ys
 |[],[],_=>rfl
 |[],_::_,h=>by simp at h
 |_::_,[],h=>by simp at h
 |x::xs,y::ys,h=>by
  simp only[yq,Yu]at h
  rw[Tt.bk h.1,jB h.2]
def Al.bk{x y:Al}(h:x.bj=y.bj):x=y:=by
 obtain⟨a1,d,O⟩:=x;obtain⟨c,b,e⟩:=y;simp only[Al.bj,YO]at h;obtain⟨rfl,rfl,a⟩:=h;rw[jB a]
def N_(x y:Al):Bool:=decide (x.z=y.z)&&(decide (x.aa=y.aa)&&decide (x.x.map Tt.bj=y.x.map Tt.bj))
def Xb{x y}:N_ x y=true↔x=y:=by
 unfold N_;simp only[yi,decide_eq_true_eq];exact⟨λh=>Al.bk (by simp[Al.bj,h.1,h.2.1,h.2.2]),λh=>by rw[h];exact⟨rfl,rfl,rfl⟩⟩
def DZ(x:Al):List Al->Nat
 |[]=>0
 |y::r=>if N_ y x then 0 else DZ x r+1
def jE(x):∀A:List Al,DZ x A<=A.length
 |[]=>yu _
 |y::r=>by
  have:=jE x r
  unfold DZ
  split<;>simp
  omega
def jO{x}:∀{A:List Al},DZ x A<A.length->A[DZ x A]?=some x
 |[],h=>by simp at h
 |y::r,h=>by
  unfold DZ at h⊢
  split
  .rename_i a
   rw[Xb.1 a]
   rfl
  rename_i a
  rw[if_neg a]at h
  simp only[yw]
  exact jO (by simpa using h)
def Fe(A:List Al)(x:Al):List Al:=if DZ x A<A.length then A else A++[x]
def jx{A x}(h:DZ x A<A.length):Fe A x=A:=if_pos h
def jy{A x}(h:¬DZ x A<A.length):Fe A x=A++[x]:=if_neg h
def kT{A x}(h:¬DZ x A<A.length):DZ x A=A.length:=by have:=jE x A;omega
def znE(A x):(Fe A x).length<=A.length+1:=by
 unfold Fe;split<;>simp
def Tp(p):(C0 p).x.length<=6:=by
 unfold C0;split
 .rename_i h;exact yh (S0 _ _) (Vg h)
 simp
abbrev FH:=Al × Value
def N5(w:World)(base:Nat)(x:FH):Prop:=(∃a c,x.2=.slice a x.1.x.length c)/\w.ownsRow base 320 6 x.2 x.1.x.length (x.1.x.flatMap Cm)
def N5.C{w w' base x}(h:N5 w base x)(a:Bw w w'):N5 w' base x:=⟨h.1,AF h.2 a⟩
section
open Go.Maps
attribute [local go_sem ↓] wp_at_zero wp_at_succ
def zT:Tt:=⟨0,0,0,(0,0,⟨#[]⟩)⟩
def Gy(ts:List Tt):List Tt:=ts++List.replicate (6-ts.length) zT
def IE(cls:ByteArray)(n:Int)(ts:List Tt):List Value:=.string cls::.int .i64 n::ts.flatMap Cm
def Ct(x:Al):List Value:=IE x.z x.aa (Gy x.x)
def go(ts:List Tt):∀x∈ts.flatMap Cm,x.oneCell'=true:=by
 intro x b;obtain⟨t,_,a⟩:=Yo.1 b;exact QA t x a
def Qy(a n ts):(IE a n ts).length=ts.length*6+2:=by
 show(ts.flatMap Cm).length+1+1=_;rw[Qv]
def XL(b n ts):∀x∈IE b n ts,x.oneCell'=true:=by
 intro x a;simp only[IE,yG]at a;rcases a with rfl|rfl|a
 .rfl
 .rfl
 exact go ts x a
def P6(ts)(h:ts.length<=6):(Gy ts).length=6:=by simp[Gy];omega
def nY(h:P:=by intro k hk;rcases(show k=0∨k=1∨k=2∨k=3∨k=4∨k=5∨k=6 by omega) with rfl|rfl|rfl|rfl|rfl|rfl|rfl<;>rfl):=h
def zmh(a n ts)(h:ts.length<=6) :
  (IE a n (List.replicate 6 zT)).take 2++(ts.flatMap Cm++(IE a n (List.replicate 6 zT)).drop (2+(ts.flatMap Cm).length))=IE a n (Gy ts):=by
 have e:∀k,k<=6->((List.replicate 6 zT).flatMap Cm).drop (k*6)=(List.replicate (6-k) zT).flatMap Cm:=by
  exact nY
 rw[Qv];unfold IE Gy;rw[Yr,<-e ts.length h,show 2+ts.length*6=ts.length*6+1+1 by omega];rfl
def rq(ts:List Tt)(j x)(h:(ts.flatMap Cm)[j]?=some x):∃t,ts[j/6]?=some t/\(Cm t)[j%6]?=some x:=by
 induction ts generalizing j with
 |nil=>simp at h
 |cons t r O=>
  have a:(Cm t).length=6:=rfl;rw[yL]at h;by_cases hj:j<6
  .rw[yr qd]at h;refine⟨t,?_,?_⟩
   .rw[show j/6=0 by omega];rfl
   rwa [show j%6=j by omega]
  rw[yx qd]at h;obtain⟨u,b,c⟩:=O (j-(Cm t).length) h;rw[a]at b c;refine⟨u,?_,?_⟩
  .rw[show j/6=(j-6)/6+1 by omega];exact b
  rwa [show j%6=(j-6)%6 by omega]
def E9.bC{q w a ts}(h:E9 q w (some a) ts)(j x)(e:(ts.flatMap Cm)[j]?=some x):w.cell? (a.add j)=some x:=by
 obtain⟨t,g,k⟩:=rq ts j x e;obtain⟨b,o,r,c,_,_,d,f⟩:=h _ t g;cases c;have i:r=Cm t:=f;have O:(⟨b,o,none⟩:Addr).add j=⟨b,o+j,none⟩:=Wl b o j;rw[O];have:=d (j%6) x (by rw[i];exact k);rw[show o+j=o+j/6*6+j%6 by omega];exact this
def E9.cM{q w ts}(h:E9 q w none ts):ts.length=0:=by
 cases ts with
 |nil=>rfl
 |cons v r=>
  obtain⟨b,o,_,a,_⟩:=h 0 v rfl;cases a
def EA(w:World)(o n)(h:w.heap.size=n):(w.alloc o).heap[n]?=some o:=by
 subst h;exact heap_alloc_new _ _
def Oj:(prog.info? 323).map (·.size)=some 38:=qg
def tF:(prog.info? 320).map (·.size)=some 6:=qg
def vj(x a c){q}(w)(hv:E9 q w a x.x)(hl:x.x.length<=6) :
  Ca 205 #[.agg #[.string x.z,.int .i64 x.aa,.slice a x.x.length c]] w λe w'=>
   e=.returned (.agg (Ct x).toArray)/\Bw w w':=by
 go_enter func205,ntmps205;go_wp2_with (refine C7 qi 323 (.tmp 3) (.tmp 8) qi (w.heap.size+1+1) (IE x.z x.aa (List.replicate 6 zT)) qi qi _ 323 (EA _ _ _ qe) qi (by rw[Qy];exact Oj) (XL _ _ _) ?_;intro g n r)
 go_frame
 have i:=r.o;have K:g.cell? ⟨w.heap.size,2,none⟩=some (.slice a x.x.length c):=by rw[i.cell qf];simp[go_sem]
 obtain⟨f,B,p⟩:∃f:Array Value,g.heap[w.heap.size+1]?=some (.cells f 323 (0,0))/\f.size=38:=
  ⟨_,(i.block _ qd).c ((yS _ _ _ qe).c (EA _ _ _ qe)),rfl⟩
 have y:Hid (g.heap[w.heap.size+1]?=some (.cells f 323 (0,0))):=B;have I:Hid (f.size=38):=p;clear B p;have C:Bw w g:=((Aj.alloc qe _).alloc qf _).c (i.d qd);have D:=hv.d C;have A:g.heap.size=w.heap.size+1+1+1:=by rw[i.size];simp
 have T:Hid (g.heap.size=w.heap.size+1+1+1):=A;clear A r i hv;have O:Nat.min x.x.length 6=x.x.length:=by simp[Nat.min_def];omega
 have N:Hid (Nat.min x.x.length 6=x.x.length):=O;clear O
 go_region_held3 (λw'=>w'.cell? ⟨w.heap.size,2,none⟩=some (.slice a x.x.length c)) ((first | (simp[*];done) | (rw[l.o.cell qf];simp[*])))
  ((refine nF qi (.tmp 10) (.tmp 12) 243 243 qi 320 6 underlying243 tF (w.heap.size+1+1) 2 6 6 a x.x.length c qi qi _ 323 n.o (x.x.flatMap Cm) (by rw[N.o,Qv]) (λe=>E9.cM (e▸D)) (λU e=>E9.bC (e▸D)) (by rw[Qv];simp[Qy];omega) (go _) ?_;intro j u l))
 have t:j.heap[w.heap.size+1+1]?=some (.cells (Ct x).toArray 323 (0,0)):=by
  have:=u.o;rw[List.toList_toArray,zmh _ _ _ hl]at this;exact this
 have m:=l.o;have s:j.heap[w.heap.size+1]?=some (.cells f 323 (0,0)):=(m.block _ qd).c y.o;have b:(Ct x).length=38:=by unfold Ct;rw[Qy,P6 _ hl]
 have J:Bw w j:=C.drew.c (m.d qd);have M:Hid (j.heap[w.heap.size+1+1]?=some (.cells (Ct x).toArray 323 (0,0))):=t;have L:Hid (j.heap[w.heap.size+1]?=some (.cells f 323 (0,0))):=s;have k:Hid ((Ct x).length=38):=b;clear u l m t s b y n K;go_wp2_with (first|(refine X7 qi 323 (.tmp 3) qi (w.heap.size+1+1) (Ct x) qi 323 (0,0) M.o _ underlying323 qi (by rw[k.o];exact Oj) ?_)|(refine C7 qi 323 (.tmp 2) (.tmp 14) qi (w.heap.size+1) (Ct x) qi qi f 323 L.o (by rw[k.o];exact I.o) (by rw[k.o];exact Oj) (XL _ _ _) ?_;intro R H E));have G:=run_loadVar_mid (P:=prog) R (w.heap.size+1) 0 323 (Ct x) _ (JS H.o) underlying323 rfl (by rw[k.o];exact Oj)
 go_frame
 exact bodyPost_ret (v:=.agg (Ct x).toArray) (by simp[results,results205,asAddr,G]) rfl ⟨rfl,J.c (E.o.d qd)⟩
end
section
open Go.Maps
def rV:(323:TypeId)<prog.types.size:=of_decide_eq_true qg
def sY:(match prog.underlying 323 with|some (.array _ _)|some (.struct _)=>true|_=>false)=true:=qg
def sQ:prog.keyType 323=true:=qg
def RR:Keyed prog 323:=Keyed.of_law (deep_law_laid Sr (m:=6) qd rV qg sY)
def ij:prog.cellsOf 323=38:=qg
def ia:prog.cellsOf 321=36:=qg
def iM:prog.cellsOf 320=6:=qg
def Vd:prog.cellsOf 187=3:=qg
def J8(t:Tt):Prop:=(Lit.int .i64 t.Y).wf=true/\(Lit.int .i64 t.op).wf=true/\(Lit.int .i64 t.other).wf=true/\DO t.val
def LQ(x:Al):Prop:=x.z.size<=maxLen/\(Lit.int .i64 x.aa).wf=true/\x.x.length<=6/\∀t∈x.x,J8 t/\t.op≠0
def rr:J8 zT:=⟨qh,qh,qh,qh,qh,qh⟩
def fR(d v)(h:DO v):prog.keyLits (d+2) 187 [.int .i64 v.u,.int .i64 v.num,.string v.J]=some [.int .i64 v.u,.int .i64 v.num,.string v.J.data.toList]:=by
 obtain⟨c,a,b⟩:=h;simp[Program.keyLits,underlying187,underlying3,underlying2,underlying9,Vd,Sh,uf,UN,c,a,b]
def Oe(d t)(h:J8 t):∃l,prog.keyLits (d+3) 320 (Cm t)=some l:=by
 obtain⟨g,b,f,e⟩:=h;have a:∀n:Int,(Lit.int .i64 n).wf=true->prog.keyLits (d+2) 3 [.int .i64 n]=some [.int .i64 n]:=λn c=>by simp[Program.keyLits,underlying3,c]
 unfold Program.keyLits;rw[underlying320];simp only[iM];rw[if_pos ⟨qi,Mr⟩];simp only[Cm,Kg,Ks,Sh,Vd,WI,YS,Y0,Ww,a _ g,a _ b,a _ f,fR d t.val e];exact⟨_,rfl⟩
def rp(d a b c e f g)(q:J8 a)(o:J8 b)(s:J8 c)(n:J8 e)(p:J8 f)(r:J8 g):(prog.keyLits (d+4) 321 ([a,b,c,e,f,g].flatMap Cm)).isSome=true:=by
 obtain⟨t,k⟩:=Oe d a q;obtain⟨lb,i⟩:=Oe d b o;obtain⟨w,j⟩:=Oe d c s;obtain⟨u,l⟩:=Oe d e n;obtain⟨v,m⟩:=Oe d f p;obtain⟨x,O⟩:=Oe d g r;unfold Cm at k i j l m O;unfold Program.keyLits;rw[underlying321];simp only[ia,iM];rw[if_pos qi];simp only[show List.range 6=[0,1,2,3,4,5] by rfl,Kg,Ks];simp only[Cm,yL,YQ,Yb,yY,TH,W0,WI,YS,Y0,Ww,k,i,j,l,m,O];rfl
def rt(d a n)(i:a.size<=maxLen)(e:(Lit.int .i64 n).wf=true)(L)(f:L.length=36)(c:(prog.keyLits (d+1) 321 L).isSome=true) :
  (prog.keyLits (d+2) 323 (.string a::.int .i64 n::L)).isSome=true:=by
 obtain⟨l,hl⟩:=Ws.1 c;have hS:prog.keyLits (d+1) 9 [.string a]=some [.string a.data.toList]:=by simp[Program.keyLits,underlying9,i]
 have g:prog.keyLits (d+1) 3 [.int .i64 n]=some [.int .i64 n]:=by simp[Program.keyLits,underlying3,e]
 have b:L.take 36=L:=yT qd;unfold Program.keyLits;rw[underlying323];simp only[ij];rw[if_pos ⟨by simp[f],Mr⟩];simp only[Kg,Ks,UN,Sh,ia,WI,YS,Y0,Ww,hS,g,b,hl];rfl
def vP(d n)(k:d.size<=maxLen)(j:(Lit.int .i64 n).wf=true)(ts)(hl:ts.length=6)(hv:∀t∈ts,J8 t):∃l,keyOf prog 323 (.agg (IE d n ts).toArray)=some l:=by
 match ts,hl with
 |[a,b,c,e,f,g],_=>
  have m:=rp (prog.types.size-4) a b c e f g (hv _ qe) (hv _ qe) (hv _ qe) (hv _ qe) (hv _ qe) (hv _ qe);have q:4<=prog.types.size:=of_decide_eq_true qg;have i:=rt (prog.types.size-4+3) d n k j _ qi m;rw[show prog.types.size-4+3+2=prog.types.size+1 by omega]at i;have O:(Value.agg (IE d n [a,b,c,e,f,g]).toArray).formed prog 323=true:=by
   simp[Value.formed,underlying323,ij,Qy]
  unfold keyOf;rw[underlying323];simp only[sQ,O,Ku,if_true];obtain⟨p,o⟩:=Ws.1 i;show∃l,(prog.keyLits (prog.types.size+1) 323 (.string d::I6 n::[a,b,c,e,f,g].flatMap Cm)).map _=some l;rw[o];exact⟨_,rfl⟩
def lZ:∀(a vs:List Tt),a.length=vs.length->a.flatMap Cm=vs.flatMap Cm->a=vs
 |[],[],_,_=>rfl
 |[],_::_,h,_=>by simp at h
 |_::_,[],h,_=>by simp at h
 |u::a,v::vs,h,e=>by
  simp only[yL,Cm,Yb,yY,Yu,KC,WX,true_and]at e
  obtain⟨g,i,c,d,j,f,O⟩:=e
  have b:=lZ a vs qq O
  rw[b,Tt.bk (x:=u) (y:=v) (by simp only[Tt.bj,g,i,c,d,j,f])]
def tf{x}(h:LQ x):∃l,keyOf prog 323 (.agg (Ct x).toArray)=some l:=by
 obtain⟨e,b,d,c⟩:=h;refine vP x.z x.aa e b (Gy x.x) (P6 _ d) ?_;intro t a;rcases yn.1 a with a|a
 .exact(c t a).1
 rw[Wt a];exact rr
def LM(kl:Al->Lit):Prop:=∀x,LQ x->keyOf prog 323 (.agg (Ct x).toArray)=some (kl x)
def LM.bD:∃a,LM a:=
 ⟨λx=>(keyOf prog 323 (.agg (Ct x).toArray)).getD (.bool false),λx h=>by
  obtain⟨l,hl⟩:=tf h
  simp only[hl,YE]⟩
def QU(t:Tt):Bool:=!(t.op==0)
def kP{ts}(h:∀t∈ts,t.op≠0):(Gy ts).filter QU=ts:=by simp_all[QU,zT,Gy]
def iW{d}(K:LM d){x y}(b:LQ x)(c:LQ y)(h:d x=d y):x=y:=by
 have e:=RR.inj (K x b) (h▸K y c);simp only[Value.agg.injEq]at e;have O:Ct x=Ct y:=by simpa using congrArg Array.toList e
 unfold Ct IE at O;simp only[Yu,WX,KC,true_and]at O;obtain⟨f,g,i⟩:=O;have j:=lZ _ _ (by rw[P6 _ b.2.2.1,P6 _ c.2.2.1]) i;have a:x.x=y.x:=by rw[<-kP (λt a=>(b.2.2.2 t a).2),<-kP (λt a=>(c.2.2.2 t a).2),j]
 obtain⟨x1,l,n⟩:=x;obtain⟨k,m,o⟩:=y;simp only at f g a;subst f g a;rfl
def Bx(v:Value):Option (DataW Unit × List MemPlace):=
 match v with
 |.pointer (some ⟨b,0,none⟩)=>some (.lit (.int .i64 (b:Int)),[])
 |.pointer none=>some (.lit (.bool false),[])
 |_=>none
def ig(b):Bx (.pointer (some ⟨b,0,none⟩))=some (.lit (.int .i64 (b:Int)),[]):=rfl
def jP{v}{b:Nat}{a}(h:Bx v=some (.lit (.int .i64 (b:Int)),a)):v=.pointer (some ⟨b,0,none⟩):=by
 unfold Bx at h;split at h
 .rename_i O;simp at h;have e:O=b:=qd;rw[e]
 .simp at h
 cases h
def zP:DataW Unit:=.lit (.bool false)
structure NY(kl:Al->Lit) (A:List Al) (bs:List Nat) (D:DataW Unit):Prop where
 len:bs.length=A.length
 cy:∀x b,LQ x->bs[DZ x A]?=some b->has D (kl x)=true/\D.atKey (kl x) zP=.lit (.int .i64 (b:Int))
 no:∀x,LQ x->¬DZ x A<A.length->has D (kl x)=false
def NY.start(a):NY a [] [] (.map []):=⟨rfl,λx b _ h=>by simp at h,λx _ _=>by simp[has]⟩
def XA(x y):∀A:List Al,DZ x (A++[y])=if DZ x A<A.length then DZ x A else if N_ y x then A.length else A.length+1
 |[]=>by simp[DZ]
 |z::r=>by
  simp only[Yb,DZ,yI]
  split
  .simp
  rw[XA x y r]
  by_cases a:DZ x r<r.length
  .rw[if_pos a,if_pos (show DZ x r+1<r.length+1 by omega)]
  rw[if_neg a,if_neg (show¬DZ x r+1<r.length+1 by omega)]
  split<;>rfl
def NY.add{f}(K:LM f){A m D y}{b:Nat}(h:NY f A m D)(l:IsMap D)(k:LQ y)(p:¬DZ y A<A.length):NY f (A++[y]) (m++[b]) (D.put (f y) (.lit (.int .i64 (b:Int)))):=by
 have n:WideAt.IsKeyLit (f y):=RR.key (K y k);have a:=h.len;refine⟨by simp[a],λx o j c=>?_,λx j O=>?_⟩
 .rw[XA]at c;by_cases g:DZ x A<A.length
  .rw[if_pos g,yr qd]at c;have d:f x≠f y:=λe=>p (by rw[<-iW K j k e];exact g);rw[has_put_other d,atKey_put_other d];exact h.cy x o j c
  rw[if_neg g]at c;by_cases i:N_ y x=true
  .rw[if_pos i,yx qd,a,KM]at c;simp at c;subst c;have e:=Xb.1 i;subst e;exact⟨has_put_same l n _,atKey_put_same l n _ _⟩
  rw[if_neg i,yx qd,a,Nat.add_sub_cancel_left]at c;simp at c
 rw[XA]at O;by_cases g:DZ x A<A.length
 .rw[if_pos g]at O;simp at O;omega
 rw[if_neg g]at O;by_cases i:N_ y x=true
 .rw[if_pos i]at O;simp at O
 have d:f x≠f y:=λe=>i (Xb.2 (iW K j k e).y);rw[has_put_other d];exact h.no x j g
end
def zjQ{l n P ops Q}(k:¬LetsOut Q)(hd:∀(i:Nat)(o:Oper),ops[i]?=some o->∀c,o.op≠.defer c) :
  ∀(is:List Nat)(a:Act)(w:World),wpOps P ops Q is a w->wpOpsIn (Fence.wide.inRound l) n P ops Q is a w:=by
 intro is
 induction is with
 |nil=>intro a w h;exact h
 |cons i rest ih=>
  intro a w h;unfold wpOps at h;unfold wpOpsIn;cases f:ops[i]? with
  |none=>
   rw[f]at h;exact ih a w h
  |some o=>
   rw[f]at h;simp only at h⊢;split
   .rename_i d;rw[if_pos d]at h;have h:o.wp P a w (wpOps P ops Q rest) Q:=h.resolve_right (λg=>k g.2);refine⟨λ_ _=>trivial,?_⟩;rw[Oper.semAt_plain _ _ _ (hd i o f)];unfold Oper.wp at h;generalize (execOp a.eval o).run P w=r at h⊢;cases r with
    |ok x w'=>
     cases x<;>simp only[Oper.upon,Oper.uponIn]at h⊢<;>first
      |exact ih _ _ h
      |exact h.elim
      |(refine⟨λhx=>Ua,CallsIn.inRound l (callsIn_wide.2 (Calls.j h ?_))⟩;intro e O b;cases e;exact ih _ _ b;exact b;exact b)
      |exact⟨λhx=>Ua,λc cs _=>let ⟨v,O,r,s⟩:=h c cs;⟨v,O,ih _ _ r,stepsIn_wide.2 s⟩⟩
    |halt x w'=>cases x<;>simp only[Oper.upon,Oper.uponIn]at h⊢<;>exact h
   rename_i d;rw[if_neg d]at h;exact⟨λ_ _=>trivial,ih _ _ h⟩
def wk{l n P id ops Q S a w}(d:¬LetsOut Q)(hd:∀(i:Nat)(o:Oper),ops[i]?=some o->∀c,o.op≠.defer c)(b:P.follows .mixedOrders=true)(hS:S w.drew)(h:S w.drew->wpAnyH P .any ops Q S ops.size (Array.replicate ops.size false) a w.drew):(Code.region id ops true).wpIn (Fence.wide.inRound l) n P Q a w:=
 wpIn_region_draw λt=>by
  simp only[Region.schedule,b,Bool.true_or,if_true]
  exact zjQ d hd _ _ _ (wpAny_sound ops.size t _ a _ (wpAny_of_held _ _ _ _ (h hS)))
def Xk{l n P id ops Q S a w}(d:¬LetsOut (NoPanic Q))(hd:∀(i:Nat)(o:Oper),ops[i]?=some o->∀c,o.op≠.defer c)(b:P.follows .mixedOrders=true)(hS:S w.drew)(h:S w.drew->wpAnyH P .any ops (NoPanic Q) S ops.size (Array.replicate ops.size false) a w.drew):(Code.region id ops true).wpIn (Fence.wide.inRound l) n P Q a w:=
 wpIn_mono (wk d hd b hS h) (λ_ _ _ h=>NoPanic.imp _ _ _ h)
section
variable {C F : Type} (neg : C -> Bool) (lets : C -> List F -> F -> Bool)
def E7(g:C->List F):List C->List F->List F->Prop
 |[],_,V=>V=[]
 |c::cs,T,V=>if neg c=true then(∀x∈g c,lets c T x=false)/\E7 g cs T V else∃x V',V=x::V'/\x∈g c/\lets c T x=true/\E7 g cs (T++[x]) V'
def Sd(g:C->List F)(f:F):Nat->List C->List F->List F->Prop
 |_,[],_,_=>False
 |0,c::cs,T,V=>if neg c=true then lets c T f=true/\(∀x∈g c,lets c T x=false)/\E7 neg lets g cs T V else∃V',V=f::V'/\lets c T f=true/\E7 neg lets g cs (T++[f]) V'
 |k+1,c::cs,T,V=>if neg c=true then(∀x∈g c,lets c T x=false)/\Sd g f k cs T V else∃x V',V=x::V'/\x∈g c/\lets c T x=true/\Sd g f k cs (T++[x]) V'
def JE(f:F):Nat->List C->List F->List F->Prop
 |_,[],_,_=>False
 |0,c::_,T,_=>neg c=true/\lets c T f=true
 |k+1,c::cs,T,V=>if neg c=true then JE f k cs T V else∃x V',V=x::V'/\JE f k cs (T++[x]) V'
variable {neg : C -> Bool} {lets : C -> List F -> F -> Bool}
def GW{g c cs T V}(h:neg c=true):E7 neg lets g (c::cs) T V↔(∀x∈g c,lets c T x=false)/\E7 neg lets g cs T V:=by rw[E7,if_pos h]
def Ha{g c cs T V}(h:neg c=false):E7 neg lets g (c::cs) T V↔∃x a,V=x::a/\x∈g c/\lets c T x=true/\E7 neg lets g cs (T++[x]) a:=by rw[E7,if_neg QZ]
def PF{g f c cs T V}(h:neg c=true):Sd neg lets g f 0 (c::cs) T V↔lets c T f=true/\(∀x∈g c,lets c T x=false)/\E7 neg lets g cs T V:=by rw[Sd,if_pos h]
def PG{g f c cs T V}(h:neg c=false):Sd neg lets g f 0 (c::cs) T V↔∃a,V=f::a/\lets c T f=true/\E7 neg lets g cs (T++[f]) a:=by rw[Sd,if_neg QZ]
def MJ{g f k c cs T V}(h:neg c=true):Sd neg lets g f (k+1) (c::cs) T V↔(∀x∈g c,lets c T x=false)/\Sd neg lets g f k cs T V:=by rw[Sd,if_pos h]
def ML{g f k c cs T V}(h:neg c=false):Sd neg lets g f (k+1) (c::cs) T V↔∃x a,V=x::a/\x∈g c/\lets c T x=true/\Sd neg lets g f k cs (T++[x]) a:=by rw[Sd,if_neg QZ]
def Sq{f k c cs T V}(h:neg c=true):JE neg lets f (k+1) (c::cs) T V↔JE neg lets f k cs T V:=by rw[JE,if_pos h]
def PC{f k c cs T V}(h:neg c=false):JE neg lets f (k+1) (c::cs) T V↔∃x a,V=x::a/\JE neg lets f k cs (T++[x]) a:=by rw[JE,if_neg QZ]
def Sd.ch{g f}:∀{cs:List C}{k:Nat}{T V:List F},(∀c,cs[k]?=some c->neg c=false->f∈g c)->Sd neg lets g f k cs T V->E7 neg lets g cs T V
 |[],0,_,_,_,h=>h.elim
 |[],_+1,_,_,_,h=>h.elim
 |c::cs,0,T,V,hf,h=>by
  cases a:neg c
  .obtain⟨i,rfl,e,b⟩:=(PG a).1 h
   exact(Ha a).2 ⟨f,i,rfl,hf c rfl a,e,b⟩
  .obtain⟨_,e,b⟩:=(PF a).1 h
   exact(GW a).2 ⟨e,b⟩
 |c::cs,k+1,T,V,hf,h=>by
  have O:∀d,cs[k]?=some d->neg d=false->f∈g d:=λd hd=>hf d qy
  cases a:neg c
  .obtain⟨x,i,rfl,e,b,j⟩:=(ML a).1 h
   exact(Ha a).2 ⟨x,i,rfl,e,b,j.ch O⟩
  obtain⟨e,b⟩:=(MJ a).1 h
  exact(GW a).2 ⟨e,b.ch O⟩
def E7.free{g f}:∀{cs:List C}{k:Nat}{T V:List F},E7 neg lets g cs T V->(∀c,cs[k]?=some c->neg c=true->f∈g c)->¬JE neg lets f k cs T V
 |[],0,_,_,_,_,h=>h.elim
 |[],_+1,_,_,_,_,h=>h.elim
 |c::cs,0,T,V,hs,hf,h=>by
  obtain⟨b,l⟩:=h
  have:=((GW b).1 hs).1 f (hf c rfl b)
  rw[l]at this
  cases this
 |c::cs,k+1,T,V,hs,hf,h=>by
  have O:∀d,cs[k]?=some d->neg d=true->f∈g d:=λd hd=>hf d qy
  cases a:neg c
  .obtain⟨x,n,rfl,_,_,i⟩:=(Ha a).1 hs
   obtain⟨m,o,e,j⟩:=(PC a).1 h
   cases e
   exact i.free O j
  exact((GW a).1 hs).2.free O ((Sq a).1 h)
def jA{g t}{p:C->Bool}{f}:∀{cs:List C}{T V:List F},(∀c∈cs,∀x,x∈t c↔x∈g c∨(p c=true/\x=f))->(E7 neg lets t cs T V↔(E7 neg lets g cs T V/\∀k c,cs[k]?=some c->neg c=true->p c=true->¬JE neg lets f k cs T V)∨∃k c,cs[k]?=some c/\neg c=false/\p c=true/\Sd neg lets t f k cs T V)
 |[],T,V,_=>by simp[E7]
 |c::cs,T,V,hg=>by
  have ih:=λT V=>jA (cs:=cs) (T:=T) (V:=V) (λd hd=>hg d IP)
  have s:=hg c qe
  cases a:neg c
  .rw[Ha a]
   constructor
   .rintro⟨x,q,rfl,m,hl,j⟩
    by_cases u:x∈g c
    .rcases(ih _ _).1 j with⟨i,b⟩|⟨k,d,hd,i,b,r⟩
     .refine .inl ⟨(Ha a).2 ⟨x,q,rfl,u,hl,i⟩,λk d hd l n o=>?_⟩
      cases k with
      |zero=>
       cases hd
       rw[a]at l
       cases l
      |succ k=>
       obtain⟨w,y,e,o⟩:=(PC a).1 o
       cases e
       exact b k d qy l n o
     exact .inr ⟨k+1,d,qy,i,b,(ML a).2 ⟨x,q,rfl,m,hl,r⟩⟩
    rcases(s x).1 m with h|⟨n,rfl⟩
    .exact absurd h u
    exact .inr ⟨0,c,rfl,a,n,(PG a).2 ⟨q,rfl,hl,j⟩⟩
   rintro(⟨i,b⟩|⟨k,d,hd,i,b,r⟩)
   .obtain⟨x,q,rfl,m,hl,j⟩:=(Ha a).1 i
    exact⟨x,q,rfl,(s x).2 (.inl m),hl,(ih _ _).2 (.inl ⟨j,λk d hd l n o=>b (k+1) d qy l n ((PC a).2 ⟨x,q,rfl,o⟩)⟩)⟩
   cases k with
   |zero=>
    cases hd
    obtain⟨q,rfl,hl,j⟩:=(PG a).1 r
    exact⟨f,q,rfl,(s f).2 (.inr ⟨b,rfl⟩),hl,j⟩
   |succ k=>
    obtain⟨x,q,rfl,m,hl,j⟩:=(ML a).1 r
    exact⟨x,q,rfl,m,hl,(ih _ _).2 (.inr ⟨k,d,qy,i,b,j⟩)⟩
  rw[GW a]
  constructor
  .rintro⟨l,j⟩
   have v:∀x∈g c,lets c T x=false:=λx m=>l x ((s x).2 (.inl m))
   rcases(ih _ _).1 j with⟨i,b⟩|⟨k,d,hd,i,b,r⟩
   .refine .inl ⟨(GW a).2 ⟨v,i⟩,λk d hd O n o=>?_⟩
    cases k with
    |zero=>
     cases hd
     have:=l f ((s f).2 (.inr ⟨n,rfl⟩))
     rw[o.2]at this
     cases this
    |succ k=>exact b k d qy O n ((Sq a).1 o)
   exact .inr ⟨k+1,d,qy,i,b,(MJ a).2 ⟨l,r⟩⟩
  rintro(⟨i,b⟩|⟨k,d,hd,i,b,r⟩)
  .obtain⟨l,j⟩:=(GW a).1 i
   refine⟨λx m=>?_,(ih _ _).2 (.inl ⟨j,λk d hd O n o=>b (k+1) d qy O n ((Sq a).2 o)⟩)⟩
   rcases(s x).1 m with m|⟨n,rfl⟩
   .exact l x m
   .cases hl:lets c T x
    .rfl
    .exact absurd ⟨a,hl⟩ (b 0 c rfl a n)
  cases k with
  |zero=>
   cases hd
   rw[a]at i
   cases i
  |succ k=>
   obtain⟨l,j⟩:=(MJ a).1 r
   exact⟨l,(ih _ _).2 (.inr ⟨k,d,qy,i,b,j⟩)⟩
def ju{g s}{p:C->Bool}{f}:∀{cs:List C}{T V:List F},(∀c∈cs,∀x,x∈s c↔x∈g c/\x≠f)->(∀c∈cs,f∈g c->p c=true)->(E7 neg lets s cs T V↔(E7 neg lets g cs T V/\f ∉ V)∨∃k c,cs[k]?=some c/\neg c=true/\p c=true/\Sd neg lets s f k cs T V)
 |[],T,V,_,_=>by
  simp only[E7]
  constructor
  .rintro rfl
   exact .inl ⟨rfl,by simp⟩
  .rintro(⟨h,_⟩|⟨k,c,h,_⟩)
   .exact h
   .simp at h
 |c::cs,T,V,hg,hp=>by
  have O:=λT V=>ju (cs:=cs) (T:=T) (V:=V) (λd hd=>hg d IP) (λd hd=>hp d IP)
  have q:=hg c qe
  cases j:neg c
  .rw[Ha j]
   constructor
   .rintro⟨x,o,rfl,l,hl,i⟩
    obtain⟨t,v⟩:=(q x).1 l
    rcases(O _ _).1 i with⟨b,a⟩|⟨k,d,hd,b,a,n⟩
    .exact .inl ⟨(Ha j).2 ⟨x,o,rfl,t,hl,b⟩,by simp[a,KK v]⟩
    exact .inr ⟨k+1,d,qy,b,a,(ML j).2 ⟨x,o,rfl,l,hl,n⟩⟩
   rintro(⟨b,a⟩|⟨k,d,hd,b,a,n⟩)
   .obtain⟨x,o,rfl,l,hl,i⟩:=(Ha j).1 b
    simp only[yG,not_or]at a
    exact⟨x,o,rfl,(q x).2 ⟨l,λe=>a.1 e.y⟩,hl,(O _ _).2 (.inl ⟨i,a.2⟩)⟩
   cases k with
   |zero=>
    cases hd
    rw[j]at b
    cases b
   |succ k=>
    obtain⟨x,o,rfl,l,hl,i⟩:=(ML j).1 n
    exact⟨x,o,rfl,l,hl,(O _ _).2 (.inr ⟨k,d,qy,b,a,i⟩)⟩
  rw[GW j]
  constructor
  .rintro⟨m,i⟩
   by_cases r:f∈g c/\lets c T f=true
   .exact .inr ⟨0,c,rfl,j,hp c qe r.1,(PF j).2 ⟨r.2,m,i⟩⟩
   have u:∀x∈g c,lets c T x=false:=λx l=>by
    cases hl:lets c T x
    .rfl
    by_cases e:x=f
    .subst e
     exact absurd ⟨l,hl⟩ r
    have:=m x ((q x).2 ⟨l,e⟩)
    rw[hl]at this
    cases this
   rcases(O _ _).1 i with⟨b,a⟩|⟨k,d,hd,b,a,n⟩
   .exact .inl ⟨(GW j).2 ⟨u,b⟩,a⟩
   exact .inr ⟨k+1,d,qy,b,a,(MJ j).2 ⟨m,n⟩⟩
  rintro(⟨b,a⟩|⟨k,d,hd,b,a,n⟩)
  .obtain⟨m,i⟩:=(GW j).1 b
   exact⟨λx l=>m x ((q x).1 l).1,(O _ _).2 (.inl ⟨i,a⟩)⟩
  cases k with
  |zero=>
   obtain⟨_,m,i⟩:=(PF j).1 n
   exact⟨m,i⟩
  |succ k=>
   obtain⟨m,i⟩:=(MJ j).1 n
   exact⟨m,(O _ _).2 (.inr ⟨k,d,qy,b,a,i⟩)⟩
end
section
attribute [local go_sem ↓] wp_at_zero wp_at_succ
def zV:V:=(0,0,ByteArray.empty)
def Ny(vs:List V):List V:=vs++List.replicate (6-vs.length) zV
def IA(cls:ByteArray)(n:Nat)(vs:List V):List Value:=.string cls::.int .i64 n::vs.flatMap V.cells
def Ei(f:F):List Value:=IA f.z f.s.length (Ny f.s)
def MX(vs:List V):(vs.flatMap V.cells).length=vs.length*3:=by
 induction vs with
 |nil=>rfl
 |cons v r O=>simp[O,V.cells];omega
def SM(vs:List V):∀x∈vs.flatMap V.cells,x.oneCell'=true:=by
 intro x a;obtain⟨v,_,hv⟩:=Yo.1 a;simp[V.cells]at hv;rcases hv with rfl|rfl|rfl<;>rfl
def Qc(a n vs):(IA a n vs).length=vs.length*3+2:=by
 show(vs.flatMap V.cells).length+1+1=_;rw[MX]
def Xp(b n vs):∀x∈IA b n vs,x.oneCell'=true:=by
 intro x a;simp only[IA,yG]at a;rcases a with rfl|rfl|a
 .rfl
 .rfl
 exact SM vs x a
def PA(vs)(h:vs.length<=6):(Ny vs).length=6:=by simp[Ny];omega
def zoH(a n vs)(h:vs.length<=6) :
  (IA a n (List.replicate 6 zV)).take 2++(vs.flatMap V.cells++(IA a n (List.replicate 6 zV)).drop (2+(vs.flatMap V.cells).length))=IA a n (Ny vs):=by
 have e:∀k,k<=6->((List.replicate 6 zV).flatMap V.cells).drop (k*3)=(List.replicate (6-k) zV).flatMap V.cells:=by
  exact nY
 rw[MX];unfold IA Ny;rw[Yr,<-e vs.length h,show 2+vs.length*3=vs.length*3+1+1 by omega];rfl
def iP(vs:List V)(j x)(h:(vs.flatMap V.cells)[j]?=some x):∃v,vs[j/3]?=some v/\v.cells[j%3]?=some x:=by
 induction vs generalizing j with
 |nil=>simp at h
 |cons v r O=>
  rw[yL]at h;by_cases hj:j<3
  .rw[yr (by simpa[V.cells] using hj)]at h;refine⟨v,?_,?_⟩
   .rw[show j/3=0 by omega];rfl
   rwa [show j%3=j by omega]
  rw[yx (by simp[V.cells];omega)]at h;obtain⟨u,a,b⟩:=O (j-v.cells.length) h;simp only[V.cells,yI,Yz]at a b;refine⟨u,?_,?_⟩
  .rw[show j/3=(j-(0+1+1+1))/3+1 by omega];exact a
  rwa [show j%3=(j-(0+1+1+1))%3 by omega]
def Bt.bC{w c vs}(h:Bt w (some c) vs)(j x)(i:(vs.flatMap V.cells)[j]?=some x):w.cell? (c.add j)=some x:=by
 obtain⟨v,hv,a⟩:=iP vs j x i;obtain⟨b,o,f,k,g,d⟩:=h _ v hv;cases f;have O:(⟨b,o,none⟩:Addr).add j=⟨b,o+j,none⟩:=Wl b o j;rw[O];rcases(show j%3=0∨j%3=1∨j%3=2 by omega) with e|e|e<;>rw[e]at a<;>simp[V.cells]at a<;>subst a
 .rw[show o+j=o+j/3*3 by omega];exact k
 .rw[show o+j=o+j/3*3+1 by omega];exact g
 rw[show o+j=o+j/3*3+2 by omega];exact d
def Bt.nil{w vs}(h:Bt w none vs):vs.length=0:=by
 cases vs with
 |nil=>rfl
 |cons v r=>
  obtain⟨b,o,a,_⟩:=h 0 v rfl;cases a
def US:(prog.info? 382).map (·.size)=some 20:=qg
def rR:(prog.info? 187).map (·.size)=some 3:=qg
def U7(f a c w)(hv:Bt w a f.s)(hl:f.s.length<=6) :
  Ca 257 #[.agg #[.int .i64 f.tag,.string f.z,.slice a f.s.length c]] w λe w'=>
   e=.returned (.agg (Ei f).toArray)/\Bw w w':=by
 go_enter func257,ntmps257;go_wp2_with (refine C7 qi 382 (.tmp 3) (.tmp 9) qi (w.heap.size+1+1) (IA f.z f.s.length (List.replicate 6 zV)) qi qi _ 382 (EA _ _ _ qe) qi (by rw[Qc];exact US) (Xp _ _ _) ?_;intro i n q)
 go_frame
 have j:=q.o;have J:i.cell? ⟨w.heap.size,2,none⟩=some (.slice a f.s.length c):=by rw[j.cell qf];simp[go_sem]
 obtain⟨g,A,p⟩:∃g:Array Value,i.heap[w.heap.size+1]?=some (.cells g 382 (0,0))/\g.size=20:=
  ⟨_,(j.block _ qd).c ((yS _ _ _ qe).c (EA _ _ _ qe)),rfl⟩
 have x:Hid (i.heap[w.heap.size+1]?=some (.cells g 382 (0,0))):=A;have H:Hid (g.size=20):=p;clear A p;have B:Bw w i:=((Aj.alloc qe _).alloc qf _).c (j.d qd);have C:=hv.d B;have y:i.heap.size=w.heap.size+1+1+1:=by rw[j.size];simp
 have R:Hid (i.heap.size=w.heap.size+1+1+1):=y;clear y q j hv;have O:Nat.min f.s.length 6=f.s.length:=by simp[Nat.min_def];omega
 have M:Hid (Nat.min f.s.length 6=f.s.length):=O;clear O
 go_region_held3 (λw'=>w'.cell? ⟨w.heap.size,2,none⟩=some (.slice a f.s.length c)) ((first | (simp[*];done) | (rw[l.o.cell qf];simp[*])))
  ((refine nF qi (.tmp 11) (.tmp 13) 38 38 qi 187 3 underlying38 rR (w.heap.size+1+1) 2 6 6 a f.s.length c qi qi _ 382 n.o (f.s.flatMap V.cells) (by rw[M.o,MX]) (λe=>Bt.nil (e▸C)) (λT e=>Bt.bC (e▸C)) (by rw[MX];simp[Qc];omega) (SM _) ?_;intro k u l))
 have t:k.heap[w.heap.size+1+1]?=some (.cells (Ei f).toArray 382 (0,0)):=by
  have:=u.o;rw[List.toList_toArray,zoH _ _ _ hl]at this;exact this
 have m:=l.o;have r:k.heap[w.heap.size+1]?=some (.cells g 382 (0,0)):=(m.block _ qd).c x.o;have b:(Ei f).length=20:=by unfold Ei;rw[Qc,PA _ hl]
 have I:Bw w k:=B.drew.c (m.d qd);have L:Hid (k.heap[w.heap.size+1+1]?=some (.cells (Ei f).toArray 382 (0,0))):=t;have K:Hid (k.heap[w.heap.size+1]?=some (.cells g 382 (0,0))):=r;have HL:Hid ((Ei f).length=20):=b;clear u l m t r b x n J;go_wp2_with (first|(refine X7 qi 382 (.tmp 3) qi (w.heap.size+1+1) (Ei f) qi 382 (0,0) L.o _ underlying382 qi T8 ?_)|(refine C7 qi 382 (.tmp 2) (.tmp 15) qi (w.heap.size+1) (Ei f) qi qi g 382 K.o (by rw[HL.o];exact H.o) T8 (Xp _ _ _) ?_;intro N G D));have E:=run_loadVar_mid (P:=prog) N (w.heap.size+1) 0 382 (Ei f) _ (JS G.o) underlying382 rfl T8
 go_frame
 exact bodyPost_ret (v:=.agg (Ei f).toArray) (by simp[results,results257,asAddr,E]) rfl ⟨rfl,I.c (D.o.d qd)⟩
end
def A7(fs:List F)(xs:List Value):List Value:=(fs.zip xs).flatMap λp=>A4 p.1 p.2
def BI.y{x y}(h:BI x y):BI y x:=λg a b=>h g b a
def L_{w:World}{base e m a n c xs}(h:w.ownsRow base e m (.slice a n c) n xs):n<=c:=by
 exact oF
structure Bk(w:World) (base:Nat) (v:Value) (n:Nat) (fs:List F) (xs:List Value):Prop where
 num:n=fs.length
 len:xs.length=fs.length
 Q:w.ownsRow base 145 3 v n (A7 fs xs)
 P:∀(i:Nat)(f:F)(x:Value),fs[i]?=some f->xs[i]?=some x->(∃a c,x=.slice a f.s.length c)/\w.ownsRow base 187 3 x f.s.length (f.s.flatMap V.cells)
 apart:∀x∈xs,BI v x
 bd:xs.Pairwise BI
def Pk(v:Value)(xs:List Value)(g:Nat):Prop:=v.ownBlock=some g∨∃x∈xs,x.ownBlock=some g
def Bk.bA{w base v n fs xs}(h:Bk w base v n fs xs){x}(c:x∈xs):∃f∈fs,w.ownsRow base 187 3 x f.s.length (f.s.flatMap V.cells):=by
 obtain⟨i,b,rfl⟩:=Wc c;have a:i<fs.length:=by rw[<-h.len];exact b
 exact⟨fs[i],YI a,(h.P i _ _ (yH a) (yH b)).2⟩
def Bk.range{w base v n fs xs}(h:Bk w base v n fs xs){g}(a:Pk v xs g):base<=g/\g<w.heap.size:=by
 rcases a with a|⟨x,b,a⟩
 .exact h.Q.lt g a
 obtain⟨f,_,O⟩:=h.bA b;exact O.lt g a
def Bk.kept{w w' base v n fs xs}(h:Bk w base v n fs xs)(d:∀g,Pk v xs g->w'.heap[g]?=w.heap[g]?):Bk w' base v n fs xs:=
 ⟨h.num,h.len,Bv h.Q (λg a=>d g (.inl a)),λi f x c b=>⟨(h.P i f x c b).1,Bv (h.P i f x c b).2 (λg a=>d g (.inr ⟨x,yd b,a⟩))⟩,h.apart,h.bd⟩
def Bk.d{w w' base v n fs xs}(h:Bk w base v n fs xs)(b:Bw w w'):Bk w' base v n fs xs:=
 h.kept λg a=>b.block g (h.range a).2
def Bk.lower{w base base' v n fs xs}(h:Bk w base v n fs xs)(c:base'<=base):Bk w base' v n fs xs:=
 ⟨h.num,h.len,CA h.Q c,λi f x b a=>⟨(h.P i f x b a).1,CA (h.P i f x b a).2 c⟩,h.apart,h.bd⟩
def Bk.set{w base v n fs xs}(h:Bk w base v n fs xs){p}(b:p.block<base)(u):Bk (w.setCell p u) base v n fs xs:=
 h.kept λg a=>yE _ _ _ _ (by have:=(h.range a).1;omega)
def Bk.df{w base v n fs xs}(h:Bk w base v n fs xs)(o):Bk (w.alloc o) base v n fs xs:=
 h.d Aj
def Bk.nil(w base):Bk w base (.slice none 0 0) 0 [] []:=
 ⟨rfl,rfl,yN _ _ _ _,λi f x hf=>OY,λx hx=>qB,List.Pairwise.nil⟩
def Oy:∀(fs:List F)(xs:List Value),xs.length=fs.length->∀(i:Nat)(f:F)(x:Value),fs[i]?=some f->xs[i]?=some x->∀j,j<3->(A7 fs xs)[i*3+j]?=(A4 f x)[j]?
 |[],_,_,i,f,x,hf,_,_,_=>by simp at hf
 |g::fs,[],h,_,_,_,_,_,_,_=>by simp at h
 |g::fs,y::xs,h,i,f,x,hf,hx,j,hj=>by
  unfold A7
  rw[WY,yL]
  cases i with
  |zero=>
   simp at hf hx
   subst hf
   subst hx
   rw[yr (by simpa[A4] using hj)]
   simp
  |succ i=>
   rw[yx (by simp[A4];omega)]
   have:=Oy fs xs qq i f x (by simpa using hf) (by simpa using hx) j hj
   unfold A7 at this
   rw[<-this]
   congr 1
   simp[A4]
   omega
def Xt:∀(fs:List F)(xs:List Value),xs.length=fs.length->(A7 fs xs).length=fs.length*3
 |[],_,_=>by simp[A7]
 |_::_,[],h=>by simp at h
 |g::fs,y::xs,h=>by
  have:=Xt fs xs qq
  unfold A7 at this⊢
  rw[WY,yL,yP,this]
  simp[A4]
  omega
def zga(fs xs)(h:xs.length=fs.length)(f x):A7 (fs++[f]) (xs++[x])=A7 fs xs++A4 f x:=by
 unfold A7;rw[Zj h.y,Yr];simp
def Bt.owns{w base a c vs}(h:w.ownsRow base 187 3 (.slice a vs.length c) vs.length (vs.flatMap V.cells)):Bt w a vs:=by
 intro i v hv;have k:i<vs.length:=(ye.1 hv).1;have key:∀j x,j<3->v.cells[j]?=some x->(vs.flatMap V.cells)[i*3+j]?=some x:=by
  intro j x hj e;have b:i*3+j<(vs.flatMap V.cells).length:=by rw[MX];omega
  obtain⟨u,h1,h2⟩:=iP vs (i*3+j) _ (yH b);rw[show(i*3+j)/3=i by omega,hv]at h1;cases h1;rw[show(i*3+j)%3=j by omega,e]at h2;rw[yH b,h2]
 obtain⟨g,rfl,_,h0,_⟩:=BM h (key 0 _ qd rfl);obtain⟨f,d,_,h1,_⟩:=BM h (key 1 _ qd rfl);obtain⟨l,O,_,h2,_⟩:=BM h (key 2 _ qd rfl);cases d;cases O;exact⟨g,0,rfl,qD,qw,qu⟩
def Bk.at{w base a n c fs xs}(h:Bk w base (.slice a n c) n fs xs):Bz w a fs:=by
 intro i f b;have l:i<fs.length:=(ye.1 b).1;have d:xs[i]?=some (xs[i]'(by rw[h.len];exact l)):=yH _;obtain⟨⟨o,m,e⟩,k⟩:=h.P i f _ b d;have key:=λj(hj:j<3)=>Oy fs xs h.len i f _ b d j hj;obtain⟨g,rfl,_,h0,_⟩:=BM h.Q ((key 0 qd).c rfl);obtain⟨q,p,_,h1,_⟩:=BM h.Q ((key 1 qd).c rfl);obtain⟨r,O,_,h2,_⟩:=BM h.Q ((key 2 qd).c rfl);cases p;cases O;rw[e]at h2 k;exact⟨g,0,rfl,qD,qw,o,m,qu,Bt.owns k⟩
def Bk.snoc{w w' base v d n fs xs f x}(h:Bk w base v n fs xs)(k:(∃a c,x=.slice a f.s.length c)/\w.ownsRow base 187 3 x f.s.length (f.s.flatMap V.cells))(m:BI v x)(C:∀y∈xs,BI y x)(ho:w'.ownsRow base 145 3 d (n+1) (A7 fs xs++A4 f x))(B:w.grownBy w' v.ownBlock)(hl:d.ownBlock=v.ownBlock∨d.ownBlock=some w.heap.size):Bk w' base d (n+1) (fs++[f]) (xs++[x]):=by
 have l:∀y:Value,(y∈xs∨y=x)->∀g,y.ownBlock=some g->g<w.heap.size/\w'.heap[g]?=w.heap[g]?:=by
  intro y hy g O;have o:g<w.heap.size:=by
   rcases hy with hy|rfl
   .exact(h.range (.inr ⟨y,hy,O⟩)).2
   exact(k.2.lt g O).2
  refine⟨o,B.block g o ?_⟩;intro e;rcases hy with hy|rfl
  .exact h.apart y hy g e.y O
  exact m g e.y O
 have q:∀y:Value,(y∈xs∨y=x)->BI d y:=by
  intro y hy g j O;rcases hl with hl|hl
  .rw[hl]at j;rcases hy with hy|rfl
   .exact h.apart y hy g j O
   exact m g j O
  rw[hl]at j;cases j;have:=(l y hy _ O).1;omega
 refine⟨by simp[h.num],by simp[h.len],ZU,?_,?_,?_⟩
 .intro i u y b hy;by_cases hi:i<fs.length
  .rw[yr hi]at b;rw[yr T5]at hy;obtain⟨A,r⟩:=h.P i u y b hy;exact⟨A,Bv r (λg O=>(l y (.inl (yd hy)) g O).2)⟩
  have t:i<(fs++[f]).length:=(ye.1 b).1;simp at t;obtain rfl:i=fs.length:=qd;rw[yx AH]at b;rw[yx ZV,h.len]at hy;simp at b hy;subst b;subst hy;exact⟨k.1,Bv k.2 (λg O=>(l x (.inr rfl) g O).2)⟩
 .intro y hy;rcases yn.1 hy with hy|hy
  .exact q y (.inl hy)
  exact q y (.inr QW)
 rw[Y9];exact⟨h.bd,W6 _ _,λy hy z p=>by
  simp at p;subst p;exact C y hy⟩
def Fv(Z:Nat->Prop)(w:World)(a:Option Addr)(vs:List V):Prop:=
 ∀ (i:Nat) (v:V),vs[i]?=some v->∃ b o,Z b/\a=some ⟨b,o,none⟩/\w.cell? ⟨b,o+i * 3,none⟩=some (.int .i64 v.u) /\
  w.cell? ⟨b,o+i*3+1,none⟩=some (.int .i64 v.num)/\w.cell? ⟨b,o+i*3+2,none⟩=some (.string v.J)
def DT(Z:Nat->Prop)(w:World)(a:Option Addr)(fs:List F):Prop:=
 ∀ (i:Nat) (f:F),fs[i]?=some f->∃ b o,Z b/\a=some ⟨b,o,none⟩/\w.cell? ⟨b,o+i * 3,none⟩=some (.int .i64 f.tag) /\
  w.cell? ⟨b,o+i*3+1,none⟩=some (.string f.z)/\∃a' c,w.cell? ⟨b,o+i*3+2,none⟩=some (.slice a' f.s.length c)/\Fv Z w a' f.s
def Fv.at{Z w a vs}(h:Fv Z w a vs):Bt w a vs:=λi v hv=>by
 obtain⟨b,o,_,h⟩:=h i v hv;exact⟨b,o,h⟩
def DT.at{Z w a fs}(h:DT Z w a fs):Bz w a fs:=λi f l=>by
 obtain⟨b,o,_,k,d,g,j,c,e,m⟩:=h i f l;exact⟨b,o,k,d,g,j,c,e,m.at⟩
def Li{w w':World}{b o x}(c:w'.heap[b]?=w.heap[b]?)(h:w.cell? ⟨b,o,none⟩=some x):w'.cell? ⟨b,o,none⟩=some x:=by
 rw[<-h];exact yR (a:=⟨b,o,none⟩) c
def Fv.kept{Z w w' a vs}(h:Fv Z w a vs)(g:∀b,Z b->b<w.heap.size->w'.heap[b]?=w.heap[b]?):Fv Z w' a vs:=λi v hv=>by
 obtain⟨b,o,O,f,c,e,d⟩:=h i v hv;have:=g b O (yO w ⟨b,_,none⟩ c);exact⟨b,o,O,f,Li this c,Li this e,Li this d⟩
def DT.kept{Z w w' a fs}(h:DT Z w a fs)(d:∀b,Z b->b<w.heap.size->w'.heap[b]?=w.heap[b]?):DT Z w' a fs:=λi f k=>by
 obtain⟨b,o,O,n,e,j,m,c,g,l⟩:=h i f k;have:=d b O (yO w ⟨b,_,none⟩ e);exact⟨b,o,O,n,Li this e,Li this j,m,c,Li this g,l.kept d⟩
def Fv.j{Z Z' w a vs}(h:Fv Z w a vs)(c:∀b,Z b->Z' b):Fv Z' w a vs:=λi v hv=>by
 obtain⟨b,o,O,h⟩:=h i v hv;exact⟨b,o,c b O,h⟩
def DT.j{Z Z' w a fs}(h:DT Z w a fs)(O:∀b,Z b->Z' b):DT Z' w a fs:=λi f k=>by
 obtain⟨b,o,g,p,m,e,n,c,d,l⟩:=h i f k;exact⟨b,o,O b g,p,m,e,n,c,d,l.j O⟩
def Bt.on{w a vs}(h:Bt w a vs):Fv (λb=>b<w.heap.size) w a vs:=λi v hv=>by
 obtain⟨b,o,e,c,d⟩:=h i v hv;exact⟨b,o,yO w ⟨b,_,none⟩ c,e,c,d⟩
def Bz.on{w a fs}(h:Bz w a fs):DT (λb=>b<w.heap.size) w a fs:=λi f l=>by
 obtain⟨b,o,k,d,g,j,c,e,m⟩:=h i f l;exact⟨b,o,yO w ⟨b,_,none⟩ d,k,d,g,j,c,e,m.on⟩
def Fv.owns{w base a c vs}(h:w.ownsRow base 187 3 (.slice a vs.length c) vs.length (vs.flatMap V.cells)):Fv (λb=>base<=b/\b<w.heap.size) w a vs:=λi v hv=>by
 obtain⟨b,o,rfl,d,e⟩:=Bt.owns h i v hv;exact⟨b,o,h.lt b rfl,rfl,d,e⟩
def Bk.on{w base a n c fs xs}(h:Bk w base (.slice a n c) n fs xs):DT (λb=>base<=b/\b<w.heap.size) w a fs:=by
 intro i f d;have m:i<fs.length:=(ye.1 d).1;have k:xs[i]?=some (xs[i]'(by rw[h.len];exact m)):=yH _;obtain⟨⟨p,o,e⟩,l⟩:=h.P i f _ d k;have key:=λj(hj:j<3)=>Oy fs xs h.len i f _ d k j hj;obtain⟨g,rfl,t,h0,_⟩:=BM h.Q ((key 0 qd).c rfl);obtain⟨r,q,_,h1,_⟩:=BM h.Q ((key 1 qd).c rfl);obtain⟨s,O,_,h2,_⟩:=BM h.Q ((key 2 qd).c rfl);cases q;cases O;rw[e]at h2 l;exact⟨g,0,h.Q.lt g rfl,rfl,qD,qw,p,o,qu,Fv.owns l⟩
structure In where
 af:Int
 K:List Int
def In.R(q:Option Nat)(w:World)(r:List Value)(x:In):Prop:=∃a_tags c_tags,r=[.int .i64 x.af,.slice a_tags x.K.length c_tags]/\CU q w a_tags x.K
abbrev Pq(q:Option Nat)(w:World)(a:Option Addr)(xs:List In):Prop:=Cr (In.R q) q 45 2 w a xs
def Pq.d{q w w' a xs}(h:Pq q w a xs)(b:Bw w w'):Pq q w' a xs:=Cr.d h (λ_ _ _⟨a_tags,c_tags,e,O⟩=>⟨a_tags,c_tags,e,O.d b⟩) b
def Pq.get{q w a xs i x}(h:Pq q w a xs)(d:xs[i]?=some x):∃b o a_tags c_tags,a=some ⟨b,o,none⟩/\Qb q w 45 b/\At w b (o+i*2) (I6 x.af)/\At w b (o+i*2+1) (.slice a_tags x.K.length c_tags)/\CU q w a_tags x.K:=by
 obtain⟨b,o,r,g,f,j,c,e⟩:=h i x d;obtain⟨a_tags,c_tags,rfl,O⟩:=e;exact⟨b,o,a_tags,c_tags,g,f,c 0 _ rfl,c 1 _ rfl,O⟩
def A6:List Int->List Int->Int
 |[],[]=>0
 |[],_::_=>-1
 |_::_,[]=>1
 |x::a,y::b=>if Lib.compareInt x y=0 then A6 a b else Lib.compareInt x y
def FY:List Int->List Int->Int
 |x::a,y::b=>if x<y then -1 else if y<x then 1 else FY a b
 |[],b=>- (b.length:Int)
 |x::a,[]=>((x::a).length:Int)
def I7(x y):(x<y/\Lib.compareInt x y = -1)∨(y<x/\Lib.compareInt x y=1)∨(x=y/\Lib.compareInt x y=0):=by
 unfold Lib.compareInt;by_cases a:x<y
 .exact .inl ⟨a,by simp[a]⟩
 by_cases b:y<x
 .exact .inr (.inl ⟨b,by simp[a,b]⟩)
 exact .inr (.inr ⟨qd,by simp[a,b]⟩)
def xq:∀(a b:List Int),(FY a b<0↔A6 a b<0)/\(0<FY a b↔0<A6 a b)
 |[],[]=>by simp[FY,A6]
 |[],y::b=>by
  simp only[FY,A6,yI]
  omega
 |x::a,[]=>by
  simp only[FY,A6,yI]
  omega
 |x::a,y::b=>by
  have h:=xq a b
  rcases I7 x y with⟨d,c⟩|⟨d,c⟩|⟨d,c⟩
  .simp[FY,A6,d,c]
  .have e:¬x<y:=qd
   simp[FY,A6,d,c,e]
  subst d
  simp[FY,A6,c,h]
def kW:∀(a b:List Int),A6 b a =-A6 a b
 |[],[]=>by simp[A6]
 |[],y::b=>by simp[A6]
 |x::a,[]=>by simp[A6]
 |x::a,y::b=>by
  have h:=kW a b
  rcases I7 x y with⟨f,c⟩|⟨f,c⟩|⟨f,c⟩<;>rcases I7 y x with⟨e,d⟩|⟨e,d⟩|⟨e,d⟩
  all_goals first|(exfalso;omega)|simp[A6,c,d,h]
def Ii:List Int->Int
 |[]=>0
 |x::r=>if x=0 then Ii r else x
def lp:∀(pre s:List Ru)(k:Nat),(EJ pre s k).1=0->EJ pre s k=(0,0,0)
 |pre,[],k,_=>rfl
 |pre,r::s,k,h=>by
  unfold EJ at *
  split at h
  .rename_i a
   rw[if_pos a]
   exact lp _ _ _ h
  rename_i a
  exact absurd h a
def vF{rs:List Ru}(h:(A8 rs).1=0):A8 rs=(0,0,0):=by
 unfold A8 at *;split at h
 .rename_i a;rw[if_pos a];exact lp _ _ _ h
 cases h
section
attribute [local go_sem ↓] wp_at_zero wp_at_succ
def kF{w w'}(h:w.grownBy w' none):Bw w w':=
 An.grown h AH (λk a=>by cases a)
def SF{w:World}{base e size v n xs}(h:w.ownsRow base e size v n xs){p}(b:p.block<base)(u):(w.setCell p u).ownsRow base e size v n xs:=
 Bv h (λg a=>yE _ _ _ _ (by have:=(h.lt g a).1;omega))
def fZ(w:World)(base:Nat)(x:Value)(vs:List V):Prop:=(∃a c,x=.slice a vs.length c)/\w.ownsRow base 187 3 x vs.length (vs.flatMap V.cells)
def mg(a c vs w)(hv:Bt w a vs)(hl:vs.length<=1048576) :
  Ca 178 #[.slice a vs.length c] w λe w'=>
   (∃b d,e=.returned (.slice b vs.length d)/\fZ w' w.heap.size (.slice b vs.length d) vs)/\Bw w w':=by
 go_enter func178,ntmps178;go_wp2_with (at_builtin;refine CN qi (.tmp 4) (.tmp 5) 38 qi w.heap.size 187 _ 3 32 underlying38 fW qi qd _ 0 [] qi (yN _ _ _ _) a vs.length c qi (vs.flatMap V.cells) (MX _) (λe=>Bt.nil (e▸hv)) (λk e=>Bt.bC (e▸hv)) (SM _) qj qd AH ?_;intro b d j g f i);have O:=g.o;simp only[Yc,yY]at O;go_ret;exact⟨⟨b,d,qe,⟨b,d,rfl⟩,O⟩,kF f.o⟩
def nO(f:F)(a c w)(hv:Bt w a f.s)(hl:f.s.length<=1048576) :
  Ca 259 #[.agg #[I6 f.tag,.string f.z,.slice a f.s.length c]] w λe w'=>
   (∃g b,e=.returned (.agg #[I6 f.tag,.string f.z,.slice g f.s.length b])/\fZ w' w.heap.size (.slice g f.s.length b) f.s)/\Bw w w':=by
 have n:∀o o',Bt ((w.alloc o).alloc o') a f.s:=λo o'=>hv.d (Aj.alloc qe _);have t:w.heap.size<w.heap.size+1+1:=qd;go_enter func259,ntmps259;go_wp2_with (at_builtin;refine CN qi _ (.tmp 4) 38 qi (w.heap.size+1+1) 187 _ 3 32 underlying38 fW qi qd _ 0 [] qi (yN _ _ _ _) a f.s.length c qi (f.s.flatMap V.cells) (MX _) (λe=>Bt.nil (e▸hv)) (λu e=>Bt.bC (e▸n _ _)) (SM _) qj qd qe ?_;intro g b k p l r;have O:=kF l.o;obtain⟨m,q⟩:=Aw O);have i:=p.o;simp only[Yc,yY]at i;refine bodyPost_ret (v:=.agg #[I6 f.tag,.string f.z,.slice g f.s.length b]) (by simp[results,results259,go_sem,m]) rfl ⟨⟨g,b,rfl,⟨g,b,rfl⟩,?_⟩,?_⟩
 .exact CA (SF (SF (SF (SF i qf _) qe _) qe _) qe _) qd
 have hB:Bw w k:=(Aj.alloc qe _).c (O.j qf);exact oR
def OL(f a n c):∀u∈A4 f (.slice a n c),u.oneCell'=true:=by
 intro u hu;simp[A4]at hu;rcases hu with rfl|rfl|rfl<;>rfl
def Ta{w:World}{base B v x e b s d n a xs ys}{w':World}(h:w.ownsRow base e s v n xs)(c:w'.ownsRow B b d x a ys)(k:w.heap.size<=B):BI v x:=λg f O=>by
 have j:=(h.lt g f).2;have i:=(c.lt g O).1;omega
def rO(h:P:=by
 first
  | (have _:=tP
     go_enter func258,ntmps258)
  |(go_enter func177,ntmps177)
 go_wp2
 go_loopw [3,8] (λv i wr=>∃(k:Nat)(a':Option Addr)(c':Nat)(xs:List Value),k<=fs.length/\i=I6 k/\v=.slice a' k c'/\Bk wr w.heap.size (.slice a' k c') k (fs.take k) xs/\Bw w wr) (λ_ i _=>fs.length-(intOf i).toNat)
 case atStart=>exact⟨0,none,0,[],by omega,rfl,rfl,Bk.nil _ _,An⟩
 case round=>
  obtain⟨k,a',c',xs,hk,rfl,rfl,ho,hb⟩:=hrel;by_cases ax:k<fs.length
  .obtain⟨f,am⟩:=Ba ax;obtain⟨b,o,rfl,c0,c1,s,cs,c2,hsl⟩:=hv.d hb k f am;have aq:=hs f (yd am);have HO:=Aa ho;clear ho
   first
    | (have _:=tP
       go_wp2_with (first|(go_at_call 259;refine(nO f s cs _ (hsl.d Aj) aq).j ?_;rintro e w1 ⟨⟨a1,ak,rfl,af⟩,O⟩;have ah:=Aa ((HO.o.d Aj).d O);have HX:=Aa af;clear af)|(at_builtin;refine CN (by rfl) (.tmp 12) (.tmp 15) 25 (by rfl) w.heap.size 145 _ 3 48 underlying25 Of (by rfl) (by omega) _ k _ (by rfl) (ah.o.Q.alloc _) (some ⟨w1.heap.size,0,none⟩) 1 1 (by rfl) (A4 f (.slice a1 f.s.length ak)) (by rfl) (λe=>by cases e) (by exact OG _ _ _) (OL _ _ _ _) (by unfold maxLen;omega) (by omega) (by have h1:=hb.size;have h2:=O.size;simp at h2⊢;omega) ?_;intro a2 au w2 ar ai ao)))
    | (go_wp2
       go_region_held3 (λw'=>At w' wr.heap.size 0 (I6 f.tag)/\At w' wr.heap.size 1 (.string f.z)/\At w' wr.heap.size 2 (.slice s f.s.length cs)) ((go_split_ands;refine ⟨?_,?_,?_⟩ <;> first | (simp[*,go_sem];done) | exact zab O (by simp[*,go_sem]) | exact zab Aj (zab O (by simp[*,go_sem])) | exact ai.o.cell (zab Aj (zab O (by simp[*,go_sem]))) (λe=>absurd (HO.o.Q.lt _ e.y).2 (WA _))))
         (first|(go_at_call 178;refine(mg s cs f.s _ (hsl.d ?_) aq).j ?_;exact Aj.drew;rintro e w1 ⟨⟨a1,ak,rfl,af⟩,O⟩;have ah:=Aa ((HO.o.d Aj.drew).d O);have HX:=Aa af;clear af)|(refine Hd (by rfl) (.tmp 12) (.tmp 21) 25 (by rfl) w.heap.size 145 _ 3 48 underlying25 Of (by rfl) (by omega) _ k _ (by rfl) (ah.o.Q.alloc _) (some ⟨w1.heap.size,0,none⟩) 1 1 (by rfl) (A4 f (.slice a1 f.s.length ak)) (by rfl) (λe=>by cases e) (by exact OG _ _ _) (OL _ _ _ _) (by unfold maxLen;omega) (by omega) (by have h1:=hb.size;have h2:=O.size;simp at h2⊢;omega) ?_;intro a2 au w2 ar ai ao)))
   have hX:=HX.o
   first
    | (have _:=tP
       have aj:Bw w w1:=hb.c ((Aj.thn O).j hb.size))
    |(have aj:Bw w w1:=hb.c ((Aj.drew.c (O.j (by simp))).j hb.size))
   have hsz:w.heap.size<=w1.heap.size:=aj.size;have hS:=(ah.o.d Aj).snoc ⟨hX.1,(CA hX.2 (by have:=hb.size;simp;omega)).alloc _⟩ (Ta HO.o.Q hX.2 (by simp)) (λy hy=>by
    obtain⟨f',_,aw⟩:=HO.o.bA hy;exact Ta aw hX.2 (by simp)) ar.o ai.o ao.o
   first
    |(have _:=tP)
    |(go_wp2)
   go_roundw
   case rel=>
    rw[<-Mh fs k f am]at hS;exact⟨k+1,a2,au,_,by omega,by go_num,rfl,hS,((aj.alloc hsz _).grown ai.o (by simp;omega) (λj hj=>(ah.o.Q.lt j hj).1))⟩
   case measure=>simp[intOf];omega
  go_wp2;go_ret;obtain rfl:k=fs.length:=by omega
  rw[yT AH]at ho;exact⟨⟨a',c',xs,rfl,ho⟩,hb⟩
 ):=h
def nH(a c fs w)(hv:Bz w a fs)(hl:fs.length<=1048576)(hs:∀f∈fs,f.s.length<=1048576) :
  Ca 258 #[.slice a fs.length c] w λe w'=>
   (∃a' c' xs,e=.returned (.slice a' fs.length c')/\Bk w' w.heap.size (.slice a' fs.length c') fs.length fs xs)/\Bw w w':=by
 have tP:=trivial;exact rO
def zlV(a c fs w)(hv:Bz w a fs)(hl:fs.length<=1048576)(hs:∀f∈fs,f.s.length<=1048576) :
  Ca 177 #[.slice a fs.length c] w λe w'=>
   (∃a' c' xs,e=.returned (.slice a' fs.length c')/\Bk w' w.heap.size (.slice a' fs.length c') fs.length fs xs)/\Bw w w':=by
 exact rO
end
section
open Go.Maps
def ZQ:(382:TypeId)<prog.types.size:=of_decide_eq_true qg
def f_:(match prog.underlying 382 with|some (.array _ _)|some (.struct _)=>true|_=>false)=true:=qg
def rm:prog.keyType 382=true:=qg
def Lx:Keyed prog 382:=Keyed.of_law (deep_law_laid Sr (m:=5) qd ZQ qg f_)
def gP:prog.cellsOf 382=20:=qg
def gD:prog.cellsOf 380=18:=qg
def rU:DO zV:=⟨qh,qh,qh⟩
def Z_(d a b c e f g)(O:DO a)(m:DO b)(n:DO c)(j:DO e)(l:DO f)(i:DO g):(prog.keyLits (d+3) 380 ([a,b,c,e,f,g].flatMap V.cells)).isSome=true:=by
 have k:=λv h=>fR d v h;unfold Program.keyLits;rw[underlying380];simp only[gD,Vd];rw[if_pos qi];simp only[show List.range 6=[0,1,2,3,4,5] by rfl,Kg,Ks];simp only[V.cells,yL,YQ,Yb,yY,TH,W0,WI,YS,Y0,Ww,k a O,k b m,k c n,k e j,k f l,k g i];rfl
def Z9(d a n)(i:a.size<=maxLen)(e:(Lit.int .i64 n).wf=true)(L)(f:L.length=18)(c:(prog.keyLits (d+1) 380 L).isSome=true) :
  (prog.keyLits (d+2) 382 (.string a::.int .i64 n::L)).isSome=true:=by
 obtain⟨l,hl⟩:=Ws.1 c;have hS:prog.keyLits (d+1) 9 [.string a]=some [.string a.data.toList]:=by simp[Program.keyLits,underlying9,i]
 have g:prog.keyLits (d+1) 3 [.int .i64 n]=some [.int .i64 n]:=by simp[Program.keyLits,underlying3,e]
 have b:L.take 18=L:=yT qd;unfold Program.keyLits;rw[underlying382];simp only[gP];rw[if_pos ⟨by simp[f],Mr⟩];simp only[Kg,Ks,UN,Sh,gD,WI,YS,Y0,Ww,hS,g,b,hl];rfl
def tR(d n)(k:d.size<=maxLen)(p:n<=6)(vs)(hl:vs.length=6)(hv:∀v∈vs,DO v):∃l,keyOf prog 382 (.agg (IA d n vs).toArray)=some l:=by
 match vs,hl with
 |[a,b,c,e,f,g],_=>
  have i:(Lit.int .i64 (n:Int)).wf=true:=WalkArith.wf_i64 qd;have o:=Z_ (prog.types.size-3) a b c e f g (hv _ qe) (hv _ qe) (hv _ qe) (hv _ qe) (hv _ qe) (hv _ qe);have r:3<=prog.types.size:=of_decide_eq_true qg;have j:=Z9 (prog.types.size-3+2) d n k i _ qi o;rw[show prog.types.size-3+2+2=prog.types.size+1 by omega]at j;have O:(Value.agg (IA d n [a,b,c,e,f,g]).toArray).formed prog 382=true:=by
   simp[Value.formed,underlying382,gP,Qc]
  unfold keyOf;rw[underlying382];simp only[rm,O,Ku,if_true];obtain⟨q,m⟩:=Ws.1 j;show∃l,(prog.keyLits (prog.types.size+1) 382 (.string d::I6 n::[a,b,c,e,f,g].flatMap V.cells)).map _=some l;rw[m];exact⟨_,rfl⟩
def jk:∀(a vs:List V),a.length=vs.length->a.flatMap V.cells=vs.flatMap V.cells->a=vs
 |[],[],_,_=>rfl
 |[],_::_,h,_=>by simp at h
 |_::_,[],h,_=>by simp at h
 |u::a,v::vs,h,e=>by
  simp only[yL,V.cells,Yb,yY,Yu,KC,WX,true_and]at e
  obtain⟨f,g,c,d⟩:=e
  have b:=jk a vs qq d
  rw[b,V.same f g c]
def Gf(f:F):Prop:=f.z.size<=maxLen/\f.s.length<=6/\∀v∈f.s,DO v
def rf{f}(h:Gf f):∃l,keyOf prog 382 (.agg (Ei f).toArray)=some l:=by
 obtain⟨c,a,b⟩:=h;refine tR f.z f.s.length c a (Ny f.s) (PA _ a) ?_;intro v hv;rcases yn.1 hv with hv|hv
 .exact b v hv
 rw[Wt hv];exact rU
def KL(kl:F->Lit):Prop:=∀f,Gf f->keyOf prog 382 (.agg (Ei f).toArray)=some (kl f)
def KL.bD:∃a,KL a:=
 ⟨λf=>(keyOf prog 382 (.agg (Ei f).toArray)).getD (.bool false),λf h=>by
  obtain⟨l,hl⟩:=rf h
  simp only[hl,YE]⟩
def KL.dX{a}(K:KL a){f g}(i:Gf f)(d:Gf g)(h:Bi f=Bi g):a f=a g:=by
 have b:=K f i;have c:=K g d;rw[PJ]at h;have e:Ei f=Ei g:=by unfold Ei;rw[h.1,h.2]
 rw[e,c]at b;exact(Option.some.inj b).y
def zlr{a}(K:KL a){f g}(c:Gf f)(b:Gf g)(h:a f=a g):Bi f=Bi g:=by
 have e:=Lx.inj (K f c) (h▸K g b);simp only[Value.agg.injEq]at e;have O:Ei f=Ei g:=by simpa using congrArg Array.toList e
 unfold Ei IA at O;simp only[Yu,WX,KC,true_and]at O;obtain⟨l,m,d⟩:=O;have k:=jk _ _ (by rw[PA _ c.2.1,PA _ b.2.1]) d;have i:f.s.length=g.s.length:=qd;have j:f.s=g.s:=by
  have:=congrArg (List.take f.s.length) k;unfold Ny at this;rw[List.take_left,i,List.take_left]at this;exact this
 exact PJ.2 ⟨l,j⟩
def VB{a}(K:KL a){f g}(c:Gf f)(b:Gf g):a f=a g↔Bi f=Bi g:=
 ⟨zlr K c b,K.dX c b⟩
structure Gc(kl:F->Lit) (fs:List F) (k:Nat) (D:DataW Unit):Prop where
 le:Maps.size D<=k
 iff:Maps.size D=k↔((fs.take k).map Bi).Nodup
 has:∀g,Gf g->(Maps.has D (kl g)=true↔Bi g∈(fs.take k).map Bi)
def Gc.start(a fs):Gc a fs 0 (.map []):=
 ⟨yu _,by simp[Maps.size],λg _=>by simp[Maps.has]⟩
def Gc.step{i}(K:KL i){fs k D f}(h:Gc i fs k D)(q:Tidy D)(u:fs[k]?=some f)(c:Gf f)(d):Gc i fs (k+1) (D.put (i f) d):=by
 have O:WideAt.IsKeyLit (i f):=Lx.key (K f c);have p:=h.has f c;have r:(fs.take (k+1)).map Bi=(fs.take k).map Bi++[Bi f]:=zkf Bi fs k f u;have j:=size_put (k:=i f) q d;have x:=h.le;constructor
 .rw[j];split<;>omega
 .rw[r,j,yK];by_cases l:Bi f∈(fs.take k).map Bi
  .rw[if_pos (p.2 l)];constructor
   .intro e;omega
   rintro⟨_,_,s⟩;exact absurd rfl (s _ l _ qe)
  rw[if_neg (λe=>l (p.1 e))];constructor
  .intro e;refine⟨h.iff.1 qd,qe,?_⟩;intro a w b o;simp only[yp]at o;rintro rfl;exact l (o▸w)
  rintro⟨v,_,_⟩;have:=h.iff.2 v;omega
 intro g n;rw[r,yn,yp];by_cases e:i g=i f
 .rw[e,has_put_same q.isMap O];simp[(VB K n c).1 e]
 rw[has_put_other e,h.has g n];have m:Bi g≠Bi f:=λt=>e ((VB K n c).2 t);simp[m]
end
def Es:Obj->Bool
 |.cells _ _ _=>false
 |.map _ _=>false
 |_=>true
def Ly:Obj->Bool
 |.mapIter ..=>true
 |.stringIter ..=>true
 |_=>false
structure Tn(S:Nat->Prop) (p:Obj->Bool) (d:Nat) (A B:World):Prop where
 rest:Below 0 A B
 block:∀(g:Nat)(o:Obj),A.heap[g]?=some o->¬S g->(p o=false∨g<d)->B.heap[g]?=some o
def Tn.refl(S p d A):Tn S p d A A:=⟨An,λ_ _ h _ _=>h⟩
def Tn.c{S p d A B C}(h:Tn S p d A B)(k:Tn S p d B C):Tn S p d A C:=⟨h.rest.c k.rest,λg o b a O=>k.block g o (h.block g o b a O) a O⟩
def Tn.j{S O p q d a A B}(h:Tn S p d A B)(c:∀g,S g->O g)(f:∀o,q o=false->p o=false)(hd:a<=d):Tn O q a A B:=⟨h.rest,λg o e b i=>h.block g o e (λx=>b (c g x)) (i.imp (f o) (λq=>yg q hd))⟩
def Tn.m{S p d A B}(h:Bw A B):Tn S p d A B:=⟨h.j (yk _),λg _ a _ _=>(h.block g (yj.1 a).1).c a⟩
def Tn.ba{S p d A l o o'}(h:A.heap[l]?=some o)(b:p o=true)(hd:d<=l):Tn S p d A (A.putObj l o'):=⟨⟨rfl,rfl,rfl,by simp[World.putObj],λ_ q=>absurd q qd⟩,λg c a _ O=>by
 rw[Ym (λe=>by
  subst e;rw[h]at a;cases a;rcases O with O|O
  .rw[b]at O;cases O
  omega)]
 exact a⟩
def vq(o)(h:Es o=false):Ly o=false:=by cases o<;>first|rfl|cases h
def UH(Kp:World->World->Prop)(R:World->Prop)(W:World):Exit->Act->World->Prop
 |.normal,_,W'=>W.heap.size<=W'.heap.size/\(∀(k:Nat)(o:Obj),W.heap[k]?=some o->Es o=true->W'.heap[k]?=some o)/\Kp W W'/\R W'
 |_,_,_=>False
def Rr{α:Type}(n:Nat)(P:Program)(g:Nat)(lb:Array Value)(encs:α->Array Value)(S:Nat->Prop)(Kp:World->World->Prop)(Ok:List α->α->World->World->Prop)(Fin:List α->World->Prop)(w:World):Prop:=
 ∀ (l:Nat) (J:List α->World->Prop) (W:World),Bw w W->(∀ pre A B,J pre A->Tn S Ly w.heap.size A B->J pre B) ->
  (∀(m:Nat)pre x A B,J pre A->Bw A B->Ok pre x A B->YieldAt Fence.wide m P l (encs x) B λe W'=>e=.returned (.bool true)/\J (pre++[x]) W'/\Kp B W')->J [] W ->
  CallsIn Fence.wide n P g (#[.func (.yield l) #[] #[]]++lb) W λe W'=>(∃v,e=.returned v)/\∃xs,J xs W'/\Fin xs W'
def tx{α:Type}{g:Operand}{H:Array Tmp}{assign body:Code}{Q:Exit->Act->World->Prop}{a:Act}{w:World}{n:Nat}{P:Program}
  (h1:1<=n) {gf:Nat}{lb:Array Value} (hg:a.eval g=.func (.func gf) #[] lb) (eg:∀args w,(callFunc gf args).run P w=.ok (.enter gf args) w)
  {encs:α->Array Value} (aG:∀x,(encs x).size=H.size) {S:Nat->Prop} (hS:∀b,S b->b<w.heap.size) {r:World->World->Prop}{Ok:List α->α->World->World->Prop}{Fin:List α->World->Prop}
  (ay:Rr (n-1) P gf lb encs S r Ok Fin w) (R:∀{A B C:World},r A B->r B C->r A C) (az:∀A B,Bw A B->r A B) (aq:∀(W:World)(l:Nat)(o o':Obj),W.heap[l]?=some o->Es o=true->Ly o=false->r W (W.putObj l o'))
  (I:List α->World->Prop) (u:∀pre A B,I pre A->Tn S Es w.heap.size A B->I pre B) (h0:I [] w)
  (I2:List α->α->World->Prop) (aA:∀pre x A B,I pre A->Bw A B->Ok pre x A B->I2 pre x B)
  (y:List α->α->Act->World->Prop) (aB:∀pre x f A B,y pre x f A->Tn (λ_=>False) Es w.heap.size A B->y pre x f B)
  (hF:∀xs A B,Fin xs A->Tn (λ_=>False) Es w.heap.size A B->Fin xs B)
  (af:∀ (l m:Nat) (pre:List α) (x:α) (W:World) (K:Act->World->Prop),I2 pre x W->(∀ f k,Bw W k->y pre x f k->K f k) ->
   assign.wpIn (Fence.wide.inRound l) m P (Exit.then K (λ_ _ _=>False)) { tmps:=(H.zip (encs x)).foldl (λt(p,v)=>t.setIfInBounds p v) a.tmps,defers:=[] } W)
  (am:∀(l m:Nat)(pre:List α)(x:α)(f:Act)(W:World),y pre x f W->body.wpIn (Fence.wide.inRound l) m P (UH r (I (pre++[x])) W) f W)
  (aj:∀(D:Nat)(xs:List α)(W:World),w.heap.size<=D->I xs W->Fin xs W->W.heap[D]?=some (.deferred (some []))->Q .normal { a with defers:={ target:=.collected D,args:=#[] }::a.defers } W) :
  (Code.rangeFunc g H assign body).wpIn Fence.wide n P Q a w:=by
 refine wpIn_rangeFunc ?_;intro fn aD;obtain⟨d,O⟩:∃d:LoopState->Loop,d=λst=>{ state:=st,pending:=none,fn,tmps:=a.tmps,params:=H,assign,body,defers:=w.heap.size }:=⟨_,rfl⟩
 obtain⟨i,G⟩:∃i,i=(w.alloc (.deferred (some []))).alloc (.loop (d .ready)):=⟨_,rfl⟩
 have ar:Bw w i:=by
  rw[G];exact((yX _ w).alloc AH _).alloc qe _
 have aE:i.heap[w.heap.size+1]?=some (.loop (d .ready)):=by
  rw[G];have:=World.alloc_heap_new (w.alloc (.deferred (some []))) (.loop (d .ready));rwa [Wy]at this
 have aF:i.heap[w.heap.size]?=some (.deferred (some [])):=by
  rw[G];exact(yS _ _ _ qe).c (World.alloc_heap_new w _)
 refine⟨w.heap.size+1,[{ target:=.collected w.heap.size,args:=#[] }],i,{ target:=.fn (.func gf) lb,args:=#[.func (.yield (w.heap.size+1)) #[] #[]] },i,gf,#[.func (.yield (w.heap.size+1)) #[] #[]]++lb,i,?_,?_,λ_ _=>trivial,?_,λ_=>h1,?_⟩
 .rw[G,O];exact run_enterLoop_outer _ _ _ _ _
 .simp only[resolve,hg];simp[go_sem]
 .simp[invoke,go_sem,eg]
 refine(ay (w.heap.size+1) (λpre W=>I pre W/\W.heap[w.heap.size+1]?=some (.loop (d .ready))/\W.heap[w.heap.size]?=some (.deferred (some []))) i ar ?_ ?_ ⟨u _ _ _ h0 (Tn.m ar),aE,aF⟩).j ?_
 .rintro pre A B ⟨L,J,E⟩ Z;exact⟨u pre A B L (Z.j (λ_ h=>h) vq AH),Z.block _ _ J (λq=>by have:=hS _ q;omega) (.inl rfl),Z.block _ _ E (λq=>by have:=hS _ q;omega) (.inl rfl)⟩
 .rintro m pre x A B ⟨L,J,E⟩ U N;have M:=(U.block _ (yj.1 J).1).c J;have j3:=(U.block _ (yj.1 E).1).c E;have T:=run_yield (P:=P) (args:=encs x) M (by rw[O];exact aG x);rw[O]at T;refine⟨fn,_,assign,body,T,roundIn_of_wpIn aD (af _ _ pre x B _ (aA pre x A B L U N) ?_)⟩;clear T;intro f k ao hi3;have z:=(ao.block _ (yj.1 M).1).c M;have k3:=(ao.block _ (yj.1 j3).1).c j3;have aJ:=(yj.1 z).1;refine⟨_,run_beginRound z (by rw[O]),?_⟩;have aI:Tn (λ_=>False) Es w.heap.size k (k.putObj (w.heap.size+1) (.loop { d .ready with state:=.busy })):=Tn.ba z rfl qd;have l2:(k.putObj (w.heap.size+1) (.loop { d .ready with state:=.busy })).heap[w.heap.size+1]?=some (.loop { d .ready with state:=.busy }):=World.putObj_heap_same aJ;have l3:(k.putObj (w.heap.size+1) (.loop { d .ready with state:=.busy })).heap[w.heap.size]?=some (.deferred (some [])):=(Ym qd).c k3;have aH:=aq k (w.heap.size+1) _ (.loop { d .ready with state:=.busy }) z rfl rfl;refine wpIn_mono (am _ _ pre x f _ (aB _ _ _ _ _ hi3 aI)) ?_;rintro e a3 W3 s;cases e with
  |normal=>
   obtain⟨_,aw,aC,Y⟩:=s;have m2:=aw _ _ l2 rfl;have m3:=aw _ _ l3 rfl;have au:=run_endRound (P:=P) none m2;refine⟨_,_,au,rfl,⟨u _ _ _ Y (Tn.ba m2 rfl qd),?_,(Ym qd).c m3⟩,R (az _ _ ao) (R aH (R aC (aq _ _ _ _ m2 rfl rfl)))⟩;rw[World.putObj_heap_same (yj.1 m2).1,O];rfl
  |ret=>exact s.elim
  |exit id=>exact s.elim
  |goto t=>exact s.elim
  |panic ch=>exact s.elim
  |outgrown=>exact s.elim
 rintro e W2 ⟨⟨v,rfl⟩,xs,⟨Y,hl,hd⟩,ax⟩;refine⟨none,_,?_,aj w.heap.size xs _ AH (u _ _ _ Y (Tn.ba (o':=.loop { d .ready with state:=.exhausted }) hl rfl qd)) (hF _ _ _ ax (Tn.ba hl rfl qd)) ((Ym qd).c hd)⟩;have:=run_endLoop (P:=P) hl (by rw[O];simp);rw[O]at this⊢;exact this
structure Ev{α:Type} (lt:α->α->Bool):Prop where
 asym:∀a b,lt a b=true->lt b a=false
 c:∀a b c,lt a b=true->lt b c=true->lt a c=true
 same:∀a b,lt a b=false->lt b a=false->a=b
def Ev.le_trans{α d}(h:Ev d){a b c:α}(j:d b a=false)(g:d c b=false):d c a=false:=by
 cases f:d c a with
 |false=>rfl
 |true=>
  cases i:d a b with
  |true=>
   have:=h.c c a b f i;rw[g]at this;exact this.y
  |false=>
   have e:=h.same a b i j;subst e;rw[g]at f;exact f.y
def Ev.le_of_lt{α c}(h:Ev c){a b:α}(d:c a b=true):c b a=false:=h.asym a b d
def Og{α:Type}(f:Nat->α)(i j:Nat):Nat->α:=λk=>if k=i then f j else if k=j then f i else f k
def E4(k:Nat):Nat:=(k-1)/2
structure e_{α:Type} (lt:α->α->Bool) (f:Nat->α) (n j:Nat):Prop where
 rest:∀k,k<n->0<k->k≠j->lt (f k) (f (E4 k))=false
 dY:∀k,k<n->0<k->E4 k=j->0<j->lt (f k) (f (E4 j))=false
structure UB{α:Type} (lt:α->α->Bool) (f:Nat->α) (n i:Nat):Prop where
 rest:∀k,k<n->0<k->E4 k≠i->lt (f k) (f (E4 k))=false
 dY:∀k,k<n->0<k->E4 k=i->0<i->lt (f k) (f (E4 i))=false
def Oi{k}(h:0<k):E4 k<k:=by unfold E4;omega
def e_.step{α d}(l:Ev d){f:Nat->α}{n j}(h:e_ d f n j)(hj:j<n)(p:0<j)(hl:d (f j) (f (E4 j))=true):e_ d (Og f (E4 j) j) n (E4 j):=by
 have s:=Oi p;have q:=l.le_of_lt hl;refine⟨λk c O g=>?_,λk c O r b=>?_⟩
 .unfold Og;by_cases e:k=j
  .subst e;rw[if_neg qd,if_pos rfl,if_pos rfl];exact q
  rw[if_neg g,if_neg e];by_cases m:E4 k=E4 j
  .rw[if_pos m];have a:=h.rest k c O e;rw[m]at a;exact l.le_trans q a
  rw[if_neg m];by_cases i:E4 k=j
  .rw[if_pos i];exact h.dY k c O i p
  rw[if_neg i];exact h.rest k c O e
 have t:=Oi b;unfold Og;rw[if_neg (show¬E4 (E4 j)=E4 j by omega),if_neg (show¬E4 (E4 j)=j by omega)];have o:=h.rest (E4 j) qd b qd;by_cases e:k=j
 .subst e;rw[if_neg qd,if_pos rfl];exact o
 rw[if_neg (by have:=Oi O;omega),if_neg e];have a:=h.rest k c O e;rw[r]at a;exact l.le_trans o a
def UB.step{α a}(r:Ev a){f:Nat->α}{n i j}(h:UB a f n i)(hj:j<n)(o:0<j)(c:E4 j=i)(q:∀k,k<n->0<k->E4 k=i->a (f k) (f j)=false)(hl:a (f j) (f i)=true):UB a (Og f i j) n j:=by
 have t:i<j:=by rw[<-c];exact Oi o
 have s:=r.le_of_lt hl;refine⟨λk d O g=>?_,λk d O m u=>?_⟩
 .have m:=Oi O;unfold Og;by_cases e:k=i
  .subst e;rw[if_pos rfl,if_neg qd,if_neg qd];exact h.dY j hj o c qd
  rw[if_neg e];by_cases p:k=j
  .subst p;rw[if_pos rfl,c,if_pos rfl];exact s
  rw[if_neg p];by_cases b:E4 k=i
  .rw[if_pos b];exact q k d O b
  rw[if_neg b,if_neg g];exact h.rest k d O b
 have v:=Oi O;unfold Og;rw[if_neg qd,if_neg qd,c,if_pos rfl];have l:=h.rest k d O qd;rw[m]at l;exact l
def upto{α:Type}(f:Nat->α)(n:Nat):List α:=(List.range n).map f
structure Rw{α:Type} (lt:α->α->Bool) (all out:List α) (f:Nat->α) (n:Nat):Prop where
 perm:(out++upto f n).Perm all
 fh:out.Pairwise (λa b=>lt b a=false)
 rest:∀a∈out,∀k,k<n->lt (f k) a=false
def Rw.fl{α:Type}{c:α->α->Bool}{all out:List α}{f:Nat->α}(h:Rw c all out f 0):out.Perm all/\out.Pairwise (λa b=>c b a=false):=by
 refine⟨?_,h.fh⟩;have:=h.perm;simpa[upto] using this
structure ET{α:Type} (c:α->α->Int):Prop where
 swap:∀a b,c b a =-c a b
 le:∀a b d,c a b<=0->c b d<=0->c a d<=0
 lt:∀a b d,c a b<=0->c b d<=0->(c a b<0∨c b d<0)->c a d<0
def ET.zero{α c}(h:ET c){a b d:α}(g:c a b=0)(f:c b d=0):c a d=0:=by
 have i:=h.le a b d qd qd;have e:=h.le d b a (by rw[h.swap b d];omega) (by rw[h.swap a b];omega);rw[h.swap a d]at e;omega
def ET.map{α β c}(h:ET c)(g:β->α):ET (λa b=>c (g a) (g b)):=⟨λ_ _=>h.swap _ _,λ_ _ _=>h.le _ _ _,λ_ _ _=>h.lt _ _ _⟩
def ET.or{α}{c e:α->α->Int}(h:ET c)(k:ET e):ET (λa b=>if c a b=0 then e a b else c a b):=by
 have key:∀a b d,(if c a b=0 then e a b else c a b)<=0->(if c b d=0 then e b d else c b d)<=0->(c a d<0/\(c a b<0∨c b d<0))∨(c a d=0/\c a b=0/\c b d=0/\e a b<=0/\e b d<=0):=by
  intro a b d i f;by_cases j:c a b=0
  .rw[if_pos j]at i;by_cases g:c b d=0
   .rw[if_pos g]at f;exact .inr ⟨h.zero j g,j,g,i,f⟩
   rw[if_neg g]at f;exact .inl ⟨h.lt a b d qd f (.inr qd),.inr qd⟩
  rw[if_neg j]at i;by_cases g:c b d=0
  .exact .inl ⟨h.lt a b d i qd (.inl qd),.inl qd⟩
  rw[if_neg g]at f;exact .inl ⟨h.lt a b d i f (.inl qd),.inl qd⟩
 refine⟨λa b=>?_,λa b d i f=>?_,λa b d i f o=>?_⟩
 .have p:=h.swap a b;have q:=k.swap a b;by_cases z:c a b=0
  .rw[if_pos z,if_pos qd];exact q
  rw[if_neg z,if_neg qd];exact p
 .rcases key a b d i f with⟨l,_⟩|⟨z,j,g,n,m⟩
  .rw[if_neg qd];omega
  rw[if_pos z];exact k.le a b d n m
 rcases key a b d i f with⟨l,_⟩|⟨z,j,g,n,m⟩
 .rw[if_neg qd];exact l
 rw[if_pos z];rw[if_pos j,if_pos g]at o;exact k.lt a b d n m o
def sB:ET Lib.compareInt:=by
 refine⟨λa b=>?_,λa b d g f=>?_,λa b d g f i=>?_⟩
 .rcases I7 a b with⟨p,q⟩|⟨p,q⟩|⟨p,q⟩<;>rcases I7 b a with⟨O,q'⟩|⟨O,q'⟩|⟨O,q'⟩<;>omega
 rotate_left;rotate_left
 all_goals
  rcases I7 a b with⟨p,q⟩|⟨p,q⟩|⟨p,q⟩<;>rcases I7 b d with⟨O,q'⟩|⟨O,q'⟩|⟨O,q'⟩<;>rcases I7 a d with⟨e,c⟩|⟨e,c⟩|⟨e,c⟩<;>omega
def Vm:∀(a b d:List Int),A6 a b<=0->A6 b d<=0->A6 a d<=0/\((A6 a b<0∨A6 b d<0)->A6 a d<0)
 |[],[],[],_,_=>by simp[A6]
 |[],[],_::_,_,_=>by simp[A6]
 |[],_::_,[],_,h=>by simp[A6]at h
 |[],_::_,_::_,_,_=>by simp[A6]
 |_::_,[],_,h,_=>by simp[A6]at h
 |_::_,_::_,[],_,h=>by simp[A6]at h
 |x::a,y::b,z::d,h1,h2=>by
  have ih:=Vm a b d
  simp only[A6]at h1 h2⊢
  rcases I7 x y with⟨p,q⟩|⟨p,q⟩|⟨p,q⟩<;>rcases I7 y z with⟨O,q'⟩|⟨O,q'⟩|⟨O,q'⟩<;>rcases I7 x z with⟨e,c⟩|⟨e,c⟩|⟨e,c⟩
  all_goals first|(exfalso;omega)|(rw[q]at h1⊢;rw[q']at h2⊢;rw[c];simp at h1 h2⊢;done)|(rw[q]at h1⊢;rw[q']at h2⊢;rw[c];simp at h1 h2⊢;exact ih h1 h2)
def rj:ET A6:=⟨λa b=>kW a b,λa b d e c=>(Vm a b d e c).1,λa b d e c f=>(Vm a b d e c).2 f⟩
end Go.Proofs.YtikojfajahnhgaaGreat
