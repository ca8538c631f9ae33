import Derived.Test.YtikojfajahnhgaaGreatKan
import Derived.Test.YtikojfajahnhgaaGreatKas
set_option linter.all false
set_option maxHeartbeats 6400000
set_option maxRecDepth 100000
namespace Go.Proofs.YtikojfajahnhgaaGreat
attribute [local simp] At I6 Pn mzI
attribute [local go_sem] At I6 Pn
open Go.RowKit Go.Proofs.Tryz
variable{P:Prop}
section
open Go.Deep
def sy:prog.cellsOf 4=1:=qf
def zoL:prog.cellsOf 394=6:=qf
def wj:prog.cellsOf 286=1:=qf
def zjy:prog.cellsOf 288=3:=qf
def zkq:prog.cellsOf 122=1:=qf
section
variable {H : Type} {enc : TypeId × Value -> H} {w : World} {base : Nat} {spare : Nat -> Bool} {held : Bool}
def MD{α:Type}(d:α){R:World->List Value->α->Prop}{Ok:α->Prop}(t e T:TypeId)(m:Nat)(U:prog.underlying t=some (.slice e))(N:prog.cellsOf e=m)(Z:0<m)
  (each:∀(n:Nat)(cs:List Value)(x:DataW H × List MemPlace),DataW.trod enc prog w base spare held n e cs=some x->cs.length=m->∃v:α,R w cs v/\Ok v)
  {n:Nat}{cs:List Value}{x:DataW H × List MemPlace} (h:DataW.trod enc prog w base spare held n t cs=some x) :
  ∃a c,∃vs:List α,cs=[.slice a vs.length c]/\Bq R none T m w a vs/\vs.length<=c/\vs.length<=maxLen/\∀v∈vs,Ok v:=by
 rcases open_slice U h with⟨rfl,_⟩|⟨a,len,cap,L,k,D,Pl,rfl,_,hl,hm,W,_,G⟩
 .exact⟨none,0,[],rfl,Bq.nil,yA _,yA _,λv hv=>by simp at hv⟩
 have aq:len<=L:=by rw[W];split<;>omega
 have one:∀i,i<len->∃v:α,(∃r,r.length=m/\(∀j u,r[j]?=some u->w.cell? (a.add (i*m+j))=some u)/\R w r v)/\Ok v:=by
  intro i hi;obtain⟨z,s,J⟩:=G i qd;rw[N]at s;obtain⟨_,g,O⟩:=XA s;obtain⟨v,l,E⟩:=each _ _ _ J g;refine⟨v,⟨z,g,λj u hj=>?_,l⟩,E⟩;have A:j<m:=by rw[<-g];exact(yf.1 hj).1
  have:=O j A;rw[add_add]at this;rw[this,hj]
 have:Nonempty (Inhabited α):=⟨⟨d⟩⟩
 obtain⟨av⟩:=this;obtain⟨f,hf⟩:=choose_lt one;refine⟨some a,cap,(List.range len).map f,qe,?_,qg,qg,?_⟩
 .intro i v hv;obtain⟨I,rfl⟩:=Xd hv;obtain⟨⟨r,C,q,l⟩,_⟩:=hf i I;obtain⟨b,o,K⟩:=a;obtain⟨⟨p,au,Y,_⟩,_⟩:=hf 0 qd;obtain⟨u0,y⟩:∃u,p[0]?=some u:=⟨p[0]'(by omega),qe⟩
  obtain⟨u1,B⟩:∃u,r[0]?=some u:=⟨r[0]'(by omega),qe⟩
  have M:K=none:=VC (by simpa using Y 0 u0 y) (q 0 u1 B);subst M;refine⟨b,o,r,rfl,Qb.bare _ _ _,C,λj u hj=>?_,l⟩;have:=q j u hj;rw[YZ]at this;rwa [Nat.add_assoc]
 exact XI
def tu{n:Nat}{cs:List Value}{x:DataW H × List MemPlace}(h:DataW.trod enc prog w base spare held n 30 cs=some x) :
  ∃a c,∃vs:List Int,cs=[.slice a vs.length c]/\Bf none w a vs/\vs.length<=c/\vs.length<=maxLen/\∀v∈vs,True:=
 MD (0:Int) 30 3 3 1 underlying30 GZ qd (λn cs x h b=>by
  match cs,b with
  |[v0],_=>
   obtain⟨k,O,_,_⟩:=YL underlying3 h
   exact⟨k,O,trivial⟩) h
end
def uD:prog.cellsOf 5=1:=qf
def uM:prog.cellsOf 30=1:=qf
def wJ:prog.cellsOf 292=8:=qf
def wD:prog.cellsOf 123=1:=qf
def zk7:prog.cellsOf 294=4:=qf
def zkL:prog.cellsOf 124=1:=qf
def zs:prog.cellsOf 126=5:=qf
def XE{a:Int}(h:(Lit.int .u8 a).wf=true):0<=a/\a<256:=by
 have O:IntKind.u8.min=0:=rfl;have b:IntKind.u8.max=255:=rfl;simp[Lit.wf]at h;omega
section
variable {H : Type} {enc : TypeId × Value -> H} {w : World} {base : Nat} {spare : Nat -> Bool} {held : Bool}
def sH{n:Nat}{cs:List Value}{x:DataW H × List MemPlace}(h:DataW.trod enc prog w base spare held n 292 cs=some x)(r:cs.length=8):∃v:Ex,Ex.R w cs v/\(λx:Ex=>x.le maxLen/\0<=x.op/\x.op<256) v:=by
 match cs,r with
 |[v_kind,v_op,v_var,v_val0,v_val1,v_val2,v_a,v_b],_=>
  obtain⟨xs,C,_,rfl,_,b,a⟩:=WK underlying292 h
  match xs,b with
  |[y0,y1,y2,y3,y4,y5],_=>
   have e:=(a 0 _ rfl).j (show _=some y0 from rfl);have o:=(a 1 _ rfl).j (show _=some y1 from rfl);have k:=(a 2 _ rfl).j (show _=some y2 from rfl);have f:=(a 3 _ rfl).j (show _=some y3 from rfl);have l:=(a 4 _ rfl).j (show _=some y4 from rfl);have d:=(a 5 _ rfl).j (show _=some y5 from rfl);simp[GZ]at e;simp[uD]at o;simp[JP]at k;simp[Uq]at f;simp[GZ]at l;simp[GZ]at d;obtain⟨O,m,_,_⟩:=YL underlying3 e;obtain⟨u,c,_,s⟩:=YL underlying5 o;obtain⟨Y,i,_,y⟩:=Wn underlying9 k;obtain⟨A,rfl,rfl,rfl,t⟩:=Ud f;obtain⟨q,g,_,_⟩:=YL underlying3 l;obtain⟨B,p,_,_⟩:=YL underlying3 d;simp only[Yh,and_true]at m c i g p;subst m c i g p;have z:=XE s;exact⟨⟨O,u,Y,A,q,B⟩,rfl,⟨⟨y,t.2.2⟩,z⟩⟩
def ua{n:Nat}{cs:List Value}{x:DataW H × List MemPlace}(h:DataW.trod enc prog w base spare held n 123 cs=some x) :
  ∃a c,∃vs:List Ex,cs=[.slice a vs.length c]/\BP none w a vs/\vs.length<=c/\vs.length<=maxLen/\∀v∈vs,(λx:Ex=>x.le maxLen/\0<=x.op/\x.op<256) v:=
 MD (⟨0,0,ByteArray.empty,(0,0,ByteArray.empty),0,0⟩:Ex) 123 292 225 8 underlying123 wJ qd (λ_ _ _ h b=>sH h b) h
def zi{n:Nat}{cs:List Value}{x:DataW H × List MemPlace}(h:DataW.trod enc prog w base spare held n 294 cs=some x)(q:cs.length=4):∃v:Ac,(Ac.R none) w cs v/\Ac.le maxLen v:=by
 match cs,q with
 |[v_kind,v_k,v_cls,v_args],_=>
  obtain⟨xs,z,_,rfl,_,c,d⟩:=WK underlying294 h
  match xs,c with
  |[y0,y1,y2,y3],_=>
   have g:=(d 0 _ rfl).j (show _=some y0 from rfl);have o:=(d 1 _ rfl).j (show _=some y1 from rfl);have l:=(d 2 _ rfl).j (show _=some y2 from rfl);have i:=(d 3 _ rfl).j (show _=some y3 from rfl);simp[GZ]at g;simp[GZ]at o;simp[JP]at l;simp[uM]at i;obtain⟨Y,m,_,_⟩:=YL underlying3 g;obtain⟨p,e,_,_⟩:=YL underlying3 o;obtain⟨u,k,_,t⟩:=Wn underlying9 l;obtain⟨a,b,O,f,r,y,s,_⟩:=tu i;simp only[Yh,and_true]at m e k f;subst m e k f;exact⟨⟨Y,p,u,O⟩,⟨a,b,rfl,r⟩,⟨t,s⟩⟩
def wF{n:Nat}{cs:List Value}{x:DataW H × List MemPlace}(h:DataW.trod enc prog w base spare held n 124 cs=some x) :
  ∃a c,∃vs:List Ac,cs=[.slice a vs.length c]/\C9 none w a vs/\vs.length<=c/\vs.length<=maxLen/\∀v∈vs,Ac.le maxLen v:=
 MD (⟨0,0,ByteArray.empty,[]⟩:Ac) 124 294 227 4 underlying124 zk7 qd (λ_ _ _ h b=>zi h b) h
end
section
variable {H : Type} {enc : TypeId × Value -> H} {w : World} {base : Nat} {spare : Nat -> Bool} {held : Bool}
def uk{n:Nat}{cs:List Value}{x:DataW H × List MemPlace}(h:DataW.trod enc prog w base spare held n 394 cs=some x)(l:cs.length=6):∃v:Tm,Tm.R w cs v/\(λx:Tm=>Tm.le maxLen x/\C8 x.val) v:=by
 match cs,l with
 |[v_kind,v_op,v_var,v_val0,v_val1,v_val2],_=>
  obtain⟨xs,r,_,rfl,_,a,b⟩:=WK underlying394 h
  match xs,a with
  |[y0,y1,y2,y3],_=>
   have d:=(b 0 _ rfl).j (show _=some y0 from rfl);have k:=(b 1 _ rfl).j (show _=some y1 from rfl);have g:=(b 2 _ rfl).j (show _=some y2 from rfl);have e:=(b 3 _ rfl).j (show _=some y3 from rfl);simp[GZ]at d;simp[GZ]at k;simp[JP]at g;simp[Uq]at e;obtain⟨O,i,_,_⟩:=YL underlying3 d;obtain⟨m,c,_,_⟩:=YL underlying3 k;obtain⟨q,f,_,p⟩:=Wn underlying9 g;obtain⟨o,rfl,rfl,rfl,Y⟩:=Ud e;simp only[Yh,and_true]at i c f;subst i c f;exact⟨⟨O,m,q,o⟩,rfl,⟨p,Y.2.2⟩,Y⟩
def xa{n:Nat}{cs:List Value}{x:DataW H × List MemPlace}(h:DataW.trod enc prog w base spare held n 286 cs=some x) :
  ∃a c,∃vs:List Tm,cs=[.slice a vs.length c]/\CJ none w a vs/\vs.length<=c/\vs.length<=maxLen/\∀v∈vs,(λx:Tm=>Tm.le maxLen x/\C8 x.val) v:=
 MD (⟨0,0,ByteArray.empty,(0,0,ByteArray.empty)⟩:Tm) 286 394 189 6 underlying286 zoL qd (λ_ _ _ h b=>uk h b) h
def znv{n:Nat}{cs:List Value}{x:DataW H × List MemPlace}(h:DataW.trod enc prog w base spare held n 288 cs=some x)(s:cs.length=3):∃v:Pt,(Pt.R none) w cs v/\(λx:Pt=>Pt.le maxLen x/\∀t∈x.aa,C8 t.val) v:=by
 match cs,s with
 |[v_neg,v_cls,v_terms],_=>
  obtain⟨xs,y,_,rfl,_,c,d⟩:=WK underlying288 h
  match xs,c with
  |[y0,y1,y2],_=>
   have k:=(d 0 _ rfl).j (show _=some y0 from rfl);have m:=(d 1 _ rfl).j (show _=some y1 from rfl);have g:=(d 2 _ rfl).j (show _=some y2 from rfl);simp[sy]at k;simp[JP]at m;simp[wj]at g;obtain⟨Y,l,_⟩:=DataW.trod_bool underlying4 k;obtain⟨r,i,_,o⟩:=Wn underlying9 m;obtain⟨b,a,O,f,u,q,p,e⟩:=xa g;simp only[Yh,and_true]at l i f;subst l i f;exact⟨⟨Y,r,O⟩,⟨b,a,rfl,u,q⟩,⟨⟨o,⟨p,λv hv=>(e v hv).1⟩⟩,λv hv=>(e v hv).2⟩⟩
def zlD{n:Nat}{cs:List Value}{x:DataW H × List MemPlace}(h:DataW.trod enc prog w base spare held n 122 cs=some x) :
  ∃a c,∃vs:List Pt,cs=[.slice a vs.length c]/\CH none w a vs/\vs.length<=c/\vs.length<=maxLen/\∀v∈vs,(λx:Pt=>Pt.le maxLen x/\∀t∈x.aa,C8 t.val) v:=
 MD (⟨false,ByteArray.empty,[]⟩:Pt) 122 288 152 3 underlying122 zjy qd (λ_ _ _ h b=>znv h b) h
def xG{n:Nat}{cs:List Value}{x:DataW H × List MemPlace}(h:DataW.trod enc prog w base spare held n 126 cs=some x)(K:cs.length=5):∃v:Ru,(Ru.R none) w cs v/\(λx:Ru=>(x.le maxLen/\GW x.exprs)/\∀p∈x.af,∀t∈p.aa,C8 t.val) v:=by
 match cs,K with
 |[v_name,v_sal,v_pats,v_exprs,v_acts],_=>
  obtain⟨xs,Z,_,rfl,_,i,g⟩:=WK underlying126 h
  match xs,i with
  |[y0,y1,y2,y3,y4],_=>
   have u:=(g 0 _ rfl).j (show _=some y0 from rfl);have y:=(g 1 _ rfl).j (show _=some y1 from rfl);have q:=(g 2 _ rfl).j (show _=some y2 from rfl);have m:=(g 3 _ rfl).j (show _=some y3 from rfl);have r:=(g 4 _ rfl).j (show _=some y4 from rfl);simp[JP]at u;simp[UK]at y;simp[zkq]at q;simp[wD]at m;simp[zkL]at r;obtain⟨Y,B,_,G⟩:=Wn underlying9 u;obtain⟨D,s,_,_⟩:=YL underlying2 y;obtain⟨e,c,I,o,U,ay,N,z⟩:=zlD q;obtain⟨a,b,O,k,T,J,C,l⟩:=ua m;obtain⟨d,f,E,A,L,az,W,M⟩:=wF r;simp only[Yh,and_true]at B s o k A;subst B s o k A;exact⟨⟨Y,D,I,O,E⟩,⟨e,c,a,b,d,f,rfl,U,T,L,J⟩,⟨⟨⟨G,⟨N,λv hv=>(z v hv).1⟩,⟨C,λv hv=>(l v hv).1⟩,⟨W,λv hv=>M v hv⟩⟩,λv hv=>(l v hv).2⟩,λv hv=>(z v hv).2⟩⟩
def zF{n:Nat}{cs:List Value}{x:DataW H × List MemPlace}(h:DataW.trod enc prog w base spare held n 55 cs=some x) :
  ∃a c,∃vs:List Ru,cs=[.slice a vs.length c]/\Do none w a vs/\vs.length<=c/\vs.length<=maxLen/\∀v∈vs,(λx:Ru=>(x.le maxLen/\GW x.exprs)/\∀p∈x.af,∀t∈p.aa,C8 t.val) v:=
 MD (⟨ByteArray.empty,0,[],[],[]⟩:Ru) 55 126 53 5 underlying55 zs qd (λ_ _ _ h b=>xG h b) h
end
end
def geI(x y:Int):Bool:=decide (y<=x)
def Zc(xs:List Int):List Int:=xs.mergeSort geI
def Nn(xs:List Int):List Int:=if xs.length<=1000 then Zc xs else []
structure In where
 au:Int
 al:List Int
def In.R(q:Option Nat)(w:World)(r:List Value)(x:In):Prop:=∃a_tags c_tags,r=[.int .i64 x.au,.slice a_tags x.al.length c_tags]/\Bf q w a_tags x.al
abbrev N9(q:Option Nat)(w:World)(a:Option Addr)(xs:List In):Prop:=Bq (In.R q) q 45 2 w a xs
def N9.J{q w w' a xs}(h:N9 q w a xs)(b:Bw w w'):N9 q w' a xs:=Bq.J h (λ_ _ _⟨a_tags,c_tags,e,O⟩=>⟨a_tags,c_tags,e,O.J b⟩) b
def N9.bare{q w a xs}(h:N9 q w a xs):N9 none w a xs:=Bq.aK h (λb _=>Qb.bare _ _ b) (λ_ _ _⟨a_tags,c_tags,e,O⟩=>⟨a_tags,c_tags,e,O.bare⟩)
def In.le(N:Nat)(x:In):Prop:=x.al.length<=N
def Az:List Int->List Int->Int
 |[],[]=>0
 |[],_::_=>-1
 |_::_,[]=>1
 |x::a,y::b=>if Lib.compareInt x y=0 then Az a b else Lib.compareInt x y
def F_:List Int->List Int->Int
 |x::a,y::b=>if x<y then -1 else if y<x then 1 else F_ a b
 |[],b=>- (b.length:Int)
 |x::a,[]=>((x::a).length:Int)
def Fr(x y):(x<y/\Lib.compareInt x y = -1)∨(y<x/\Lib.compareInt x y=1)∨(x=y/\Lib.compareInt x y=0):=by
 unfold Lib.compareInt;by_cases a:x<y
 .exact .inl ⟨a,by simp[a]⟩
 by_cases b:y<x
 .exact .inr (.inl ⟨b,by simp[a,b]⟩)
 exact .inr (.inr ⟨qd,by simp[a,b]⟩)
def xY:∀(a b:List Int),(F_ a b<0↔Az a b<0)/\(0<F_ a b↔0<Az a b)
 |[],[]=>by simp[F_,Az]
 |[],y::b=>by
  simp only[F_,Az,yH]
  omega
 |x::a,[]=>by
  simp only[F_,Az,yH]
  omega
 |x::a,y::b=>by
  have h:=xY a b
  rcases Fr x y with⟨d,c⟩|⟨d,c⟩|⟨d,c⟩
  .simp[F_,Az,d,c]
  .have e:¬x<y:=qd
   simp[F_,Az,d,c,e]
  subst d
  simp[F_,Az,c,h]
def jL:∀(a b:List Int),Az b a =-Az a b
 |[],[]=>by simp[Az]
 |[],y::b=>by simp[Az]
 |x::a,[]=>by simp[Az]
 |x::a,y::b=>by
  have h:=jL a b
  rcases Fr x y with⟨f,c⟩|⟨f,c⟩|⟨f,c⟩<;>rcases Fr y x with⟨e,d⟩|⟨e,d⟩|⟨e,d⟩
  all_goals first|(exfalso;omega)|simp[Az,c,d,h]
def Ip:List Int->Int
 |[]=>0
 |x::r=>if x=0 then Ip r else x
def tN(rs:List Ru)(x:In):Bool:=decide (0<=x.au)&&(decide (x.au<(rs.length:Int))&&decide (x.al.length<=3))
def kM:∀(a s:List Ru)(k:Nat),(FT a s k).1=0->FT a s k=(0,0,0)
 |a,[],k,_=>rfl
 |a,r::s,k,h=>by
  unfold FT at *
  split at h
  .rename_i b
   rw[if_pos b]
   exact kM _ _ _ h
  rename_i b
  exact absurd h b
def vm{rs:List Ru}(h:(Bh rs).1=0):Bh rs=(0,0,0):=by
 unfold Bh at *;split at h
 .rename_i a;rw[if_pos a];exact kM _ _ _ h
 cases h
def Ev{n m:Nat}(h:n+1+1<m):n+1+1<m/\n+1<m/\n<m:=qd
def vj(w:World)(g o x0 x1 a):w.setCells g o [x0,x1,a]=((w.setCell ⟨g,o,none⟩ x0).setCell ⟨g,o+1,none⟩ x1).setCell ⟨g,o+2,none⟩ a:=rfl
def zK(w:World)(g o x0 x1 a O):w.setCells g o [x0,x1,a,O]=(((w.setCell ⟨g,o,none⟩ x0).setCell ⟨g,o+1,none⟩ x1).setCell ⟨g,o+2,none⟩ a).setCell ⟨g,o+3,none⟩ O:=rfl
def z8(w:World)(g o x0 x1 a Y O):w.setCells g o [x0,x1,a,Y,O]=((((w.setCell ⟨g,o,none⟩ x0).setCell ⟨g,o+1,none⟩ x1).setCell ⟨g,o+2,none⟩ a).setCell ⟨g,o+3,none⟩ Y).setCell ⟨g,o+4,none⟩ O:=rfl
def zk(w:World)(g o x0 x1 b Y O a):w.setCells g o [x0,x1,b,Y,O,a]=(((((w.setCell ⟨g,o,none⟩ x0).setCell ⟨g,o+1,none⟩ x1).setCell ⟨g,o+2,none⟩ b).setCell ⟨g,o+3,none⟩ Y).setCell ⟨g,o+4,none⟩ O).setCell ⟨g,o+5,none⟩ a:=rfl
def xf(w:World)(g o x0 x1 c d O b Y a):w.setCells g o [x0,x1,c,d,O,b,Y,a]=(((((((w.setCell ⟨g,o,none⟩ x0).setCell ⟨g,o+1,none⟩ x1).setCell ⟨g,o+2,none⟩ c).setCell ⟨g,o+3,none⟩ d).setCell ⟨g,o+4,none⟩ O).setCell ⟨g,o+5,none⟩ b).setCell ⟨g,o+6,none⟩ Y).setCell ⟨g,o+7,none⟩ a:=rfl
def zkh(n:Nat)(d:8*n<=281474976710656)(w) :
  (Instr.makeSlice 30 (I6 (n:Int)) (I6 (n:Int))).run prog w=.ok (.slice (some ⟨w.heap.size,0,none⟩) n n) (w.alloc (.cells (madeCells #[I6 0] n) 3)):=by
 obtain⟨i,c,O,Y,b⟩:=info_parts MB;have a:=run_make (P:=prog) w 30 3 i _ underlying30 c O .i64 .i64 n n qd (Wm _) (by rw[b];omega) qd;simp only[YK,Y,Value.cells,Ko]at a;exact a
def kQ(a c xs w){q}(hv:Bf q w a xs)(hl:xs.length<=1048576) :
  Ca 23 #[.slice a xs.length c] w λe w'=>
   (∃g,w.heap.size<=g/\e=.returned (.slice (some ⟨g,0,none⟩) xs.length xs.length)/\Bf (some w.heap.size) w' (some ⟨g,0,none⟩) xs)/\Bw w w':=by
 have n:=zkh xs.length qd;go_enter func23,ntmps23;go_wp2;clear n
 go_loopw [4] (λi wr=>∃(k:Nat),k<=xs.length/\i=I6 k/\Dx Jy 3 1 wr w.heap.size xs.length (xs.take k)/\Bw w wr) (mz xs.length)
 case atStart=>
  refine⟨0,qd,rfl,?_,Af⟩;have:=Dx.start (R:=Jy) (t:=3) (m:=1) (w:=w) #[I6 0] xs.length;rwa [Ko]at this
 case round=>
  obtain⟨k,u,rfl,d,f⟩:=hrel;by_cases O:k<xs.length
  .obtain⟨x,Y⟩:=AJ O;obtain⟨b,o,rfl,p,s⟩:=(hv.J f).get Y;obtain⟨x0,j⟩:=d.room O 0 qd;have l:=d.free (k*1+0);simp only[Ko,YJ]at j l;go_wp2;go_roundw
   case rel=>
    refine⟨k+1,qd,ql,?_,f.setCell qn _⟩;rw[GC xs k x Y];have:=d.put (x:=x) (r:=[I6 x]) (k:=k) qg O rfl rfl (λ_ _ _ h=>uY h);rw[Ko]at this;exact this
   case measure=>(simp;omega)
  go_wp2;go_ret;rw[yu qd]at d;exact⟨⟨w.heap.size,yX _,rfl,d.at AA⟩,f⟩
def rv:(prog.info? 189).map (λi=>(i.zero,i.size,i.bytes))=some (some (.agg #[I6 0,I6 0,.string ⟨#[]⟩,I6 0,I6 0,.string ⟨#[]⟩]),6,64):=qf
def mj(h:P:=by
 repeat refine WM ?_ (by first|(simp;done)|(simp;omega)) _
 exact Y
 ):=h
def zoZ(x:Tm)(w) :
  Ca 271 #[.agg #[I6 x.kind,I6 x.op,.string x.var,I6 x.val.kind,I6 x.val.num,.string x.val.av]] w λe w'=>
   e=.returned (.agg #[I6 x.kind,I6 x.op,.string x.var,I6 x.val.kind,I6 x.val.num,.string x.val.av])/\Bw w w':=by
 go_enter func271,ntmps271;go_wp2_with (go_at_call 187;refine(VT x.val _).an λa O=>?_;have Y:Bw w a:=Ba.aj O;obtain⟨f,m1,c⟩:=Ev (m:=a.heap.size) (n:=w.heap.size) Zq;obtain⟨b,d⟩:=Ah O);refine bodyPost_ret (v:=.agg #[I6 x.kind,I6 x.op,.string x.var,I6 x.val.kind,I6 x.val.num,.string x.val.av]) (by simp[results,results271,go_sem,b]) rfl ⟨rfl,?_⟩
 .exact mj
def zm7(a c xs w){q}(hv:CJ q w a xs)(f:CP Tm.le 1048576 xs) :
  Ca 242 #[.slice a xs.length c] w λe w'=>
   (∃g,w.heap.size<=g/\e=.returned (.slice (some ⟨g,0,none⟩) xs.length xs.length)/\CJ (some w.heap.size) w' (some ⟨g,0,none⟩) xs)/\Bw w w':=by
 obtain⟨hl,f⟩:=f;have s:=M7 (P:=prog) 150 189 _ 6 64 underlying150 rv xs.length qd qd;go_enter func242,ntmps242;go_wp2;clear s
 go_loopw [4] (λi wr=>∃(k:Nat),k<=xs.length/\i=I6 k/\Dx Tm.R 189 6 wr w.heap.size xs.length (xs.take k)/\Bw w wr) (mz xs.length)
 case atStart=>exact⟨0,qd,rfl,Dx.start _ _,Af⟩
 case round=>
  obtain⟨k,W,rfl,l,m⟩:=hrel;by_cases Y:k<xs.length
  .obtain⟨x,j⟩:=AJ Y;obtain⟨b,o,rfl,v,M,c1,c2,D,U,E⟩:=(hv.J m).get j;have u:=f x (yd j);go_wp2_with (go_at_call 271;refine(zoZ x _).an λw' d=>?_;have O:=Dx.J (w':=w') l (λ_ _ _ h=>Tm.bt h) d;obtain⟨x0,p⟩:=O.room Y 0 qd;have t:=O.free (k*6+0);obtain⟨x1,G⟩:=O.room Y 1 qd;have z:=O.free (k*6+1);obtain⟨A,I⟩:=O.room Y 2 qd;have T:=O.free (k*6+2);obtain⟨N,y⟩:=O.room Y 3 qd;have Z:=O.free (k*6+3);obtain⟨x4,y4⟩:=O.room Y 4 qd;have L:=O.free (k*6+4);obtain⟨H,K⟩:=O.room Y 5 qd;have C:=O.free (k*6+5);simp only[YJ]at p t);go_roundw
   case rel=>
    refine⟨k+1,qd,ql,?_,((((((m.aj d).setCell qn _).setCell qn _).setCell qn _).setCell qn _).setCell qn _).setCell qn _⟩;rw[GC xs k x j];have n:=O.put (x:=x) (r:=[I6 x.kind,I6 x.op,.string x.var,I6 x.val.kind,I6 x.val.num,.string x.val.av]) (k:=k) qg Y rfl (rfl) (λ_ _ _ h=>Tm.bt h);rw[zk]at n;exact n
   case measure=>(simp;omega)
  go_wp2;go_ret;rw[yu qd]at l;exact⟨⟨w.heap.size,yX _,rfl,Bq.aK (l.at (B:=w.heap.size) AA) (λ_ h=>h) (λ_ _ _ h=>Tm.bt h)⟩,m⟩
def ri:(prog.info? 152).map (λi=>(i.zero,i.size,i.bytes))=some (some (.agg #[.bool false,.string ⟨#[]⟩,.slice none 0 0]),3,48):=qf
def zkg(x:Pt)(a b){q}(w)(j:CJ q w a x.aa)(i:x.le 1048576) :
  Ca 184 #[.agg #[.bool x.neg,.string x.ak,.slice a x.aa.length b]] w λe w'=>
   (∃Y O,e=.returned (.agg #[.bool x.neg,.string x.ak,.slice Y x.aa.length O])/\CJ (some w.heap.size) w' Y x.aa/\x.aa.length<=O)/\Bw w w':=by
 obtain⟨y,k⟩:=i;go_enter func184,ntmps184;go_wp2_with (go_at_call 242;refine(zm7 a b x.aa _ (j.J Ba) k).ac ?_;rintro e d ⟨⟨f,u,rfl,p⟩,c⟩;have g:Bw w d:=Ba.aj c;obtain⟨t,m1,r⟩:=Ev (m:=d.heap.size) (n:=w.heap.size) (by have:=c.size;simp at this;omega);obtain⟨l,s⟩:=Ah c;have o:CJ (some (w.heap.size+3)) d _ x.aa:=p.ax qo);refine bodyPost_ret (v:=.agg #[.bool x.neg,.string x.ak,.slice (some ⟨f,0,none⟩) x.aa.length x.aa.length]) (by simp[results,results184,go_sem,l]) rfl ⟨⟨some ⟨f,0,none⟩,x.aa.length,rfl,?_,yX _⟩,?_⟩
 .refine CJ.ax (B:=w.heap.size+3) qd ?_
  repeat refine CJ.low ?_ (Du.setCell qd _)
  exact o
 repeat refine WM ?_ qo _
 exact g
def ziq(a c xs w){q}(hv:CH q w a xs)(n:CP Pt.le 1048576 xs) :
  Ca 130 #[.slice a xs.length c] w λe w'=>
   (∃g,w.heap.size<=g/\e=.returned (.slice (some ⟨g,0,none⟩) xs.length xs.length)/\CH (some w.heap.size) w' (some ⟨g,0,none⟩) xs)/\Bw w w':=by
 obtain⟨hl,n⟩:=n;have v:=M7 (P:=prog) 49 152 _ 3 48 underlying49 ri xs.length qd qd;go_enter func130,ntmps130;go_wp2;clear v
 go_loopw [4] (λi wr=>∃(k:Nat),k<=xs.length/\i=I6 k/\Dx (Pt.R (some (w.heap.size+1))) 152 3 wr w.heap.size xs.length (xs.take k)/\Bw w wr) (mz xs.length)
 case atStart=>exact⟨0,qd,rfl,Dx.start _ _,Af⟩
 case round=>
  obtain⟨k,H,rfl,ho,p⟩:=hrel;by_cases m:k<xs.length
  .obtain⟨x,s⟩:=AJ m;obtain⟨b,o,f,d,rfl,E,N,I,U,O⟩:=(hv.J p).get s;have C:=n x (yd s);go_wp2_with (go_at_call 184;refine(zkg x f d _ O C).ac ?_;rintro e w' ⟨⟨t,Y,rfl,z,D⟩,l⟩;have j:=Dx.J (w':=w') ho (λ_ _ _⟨f,d,e,O,cp⟩=>⟨f,d,e,O.J l,cp⟩) l;obtain⟨x0,y⟩:=j.room m 0 qd;have A:=j.free (k*3+0);obtain⟨x1,G⟩:=j.room m 1 qd;have K:=j.free (k*3+1);obtain⟨L,M⟩:=j.room m 2 qd;have T:=j.free (k*3+2);simp only[YJ]at y A);go_roundw
   case rel=>
    refine⟨k+1,qd,ql,?_,(((p.aj l).setCell qn _).setCell qn _).setCell qn _⟩;rw[GC xs k x s];have u:=j.put (x:=x) (r:=[.bool x.neg,.string x.ak,.slice t x.aa.length Y]) (k:=k) qg m rfl (⟨t,Y,rfl,z.ax QF,D⟩) (λ_ _ _⟨f,d,e,O,cp⟩=>⟨f,d,e,O.low (Du.setCells qd _ _ _),cp⟩);rw[vj]at u;exact u
   case measure=>(simp;omega)
  go_wp2;go_ret;rw[yu qd]at ho;exact⟨⟨w.heap.size,yX _,rfl,Bq.aK (ho.at (B:=w.heap.size) AA) (λ_ h=>h) (λ_ _ _⟨f,d,e,O,cp⟩=>⟨f,d,e,O.ax qd,cp⟩)⟩,p⟩
def tV:(prog.info? 225).map (λi=>(i.zero,i.size,i.bytes))=some (some (.agg #[I6 0,.int .u8 0,.string ⟨#[]⟩,I6 0,I6 0,.string ⟨#[]⟩,I6 0,I6 0]),8,80):=qf
def h_(x:Ex)(w) :
  Ca 185 #[.agg #[I6 x.kind,.int .u8 x.op,.string x.var,I6 x.val.kind,I6 x.val.num,.string x.val.av,I6 x.a,I6 x.b]] w λe w'=>
   e=.returned (.agg #[I6 x.kind,.int .u8 x.op,.string x.var,I6 x.val.kind,I6 x.val.num,.string x.val.av,I6 x.a,I6 x.b])/\Bw w w':=by
 go_enter func185,ntmps185;go_wp2_with (go_at_call 187;refine(VT x.val _).an λc O=>?_;have Y:Bw w c:=Ba.aj O;obtain⟨i,m1,f⟩:=Ev (m:=c.heap.size) (n:=w.heap.size) Zq;obtain⟨d,g⟩:=Ah O);refine bodyPost_ret (v:=.agg #[I6 x.kind,.int .u8 x.op,.string x.var,I6 x.val.kind,I6 x.val.num,.string x.val.av,I6 x.a,I6 x.b]) (by simp[results,results185,go_sem,d]) rfl ⟨rfl,?_⟩
 .exact mj
def zmF(a c xs w){q}(hv:BP q w a xs)(f:CP Ex.le 1048576 xs) :
  Ca 131 #[.slice a xs.length c] w λe w'=>
   (∃g,w.heap.size<=g/\e=.returned (.slice (some ⟨g,0,none⟩) xs.length xs.length)/\BP (some w.heap.size) w' (some ⟨g,0,none⟩) xs)/\Bw w w':=by
 obtain⟨hl,f⟩:=f;have s:=M7 (P:=prog) 50 225 _ 8 80 underlying50 tV xs.length qd qd;go_enter func131,ntmps131;go_wp2;clear s
 go_loopw [4] (λi wr=>∃(k:Nat),k<=xs.length/\i=I6 k/\Dx Ex.R 225 8 wr w.heap.size xs.length (xs.take k)/\Bw w wr) (mz xs.length)
 case atStart=>exact⟨0,qd,rfl,Dx.start _ _,Af⟩
 case round=>
  obtain⟨k,hk,rfl,l,m⟩:=hrel;by_cases Y:k<xs.length
  .obtain⟨x,j⟩:=AJ Y;obtain⟨b,o,rfl,v,N,c1,c2,E,Z,G,T,c7⟩:=(hv.J m).get j;have u:=f x (yd j);go_wp2_with (go_at_call 185;refine(h_ x _).an λw' d=>?_;have O:=Dx.J (w':=w') l (λ_ _ _ h=>Ex.bt h) d;obtain⟨x0,p⟩:=O.room Y 0 qd;have t:=O.free (k*8+0);obtain⟨x1,H⟩:=O.room Y 1 qd;have z:=O.free (k*8+1);obtain⟨C,K⟩:=O.room Y 2 qd;have W:=O.free (k*8+2);obtain⟨U,y⟩:=O.room Y 3 qd;have f3:=O.free (k*8+3);obtain⟨x4,y4⟩:=O.room Y 4 qd;have M:=O.free (k*8+4);obtain⟨I,L⟩:=O.room Y 5 qd;have D:=O.free (k*8+5);obtain⟨x6,y6⟩:=O.room Y 6 qd;have A:=O.free (k*8+6);obtain⟨x7,y7⟩:=O.room Y 7 qd;have f7:=O.free (k*8+7);simp only[YJ]at p t);go_roundw
   case rel=>
    refine⟨k+1,qd,ql,?_,((((((((m.aj d).setCell qn _).setCell qn _).setCell qn _).setCell qn _).setCell qn _).setCell qn _).setCell qn _).setCell qn _⟩;rw[GC xs k x j];have n:=O.put (x:=x) (r:=[I6 x.kind,.int .u8 x.op,.string x.var,I6 x.val.kind,I6 x.val.num,.string x.val.av,I6 x.a,I6 x.b]) (k:=k) qg Y rfl (rfl) (λ_ _ _ h=>Ex.bt h);rw[xf]at n;exact n
   case measure=>(simp;omega)
  go_wp2;go_ret;rw[yu qd]at l;exact⟨⟨w.heap.size,yX _,rfl,Bq.aK (l.at (B:=w.heap.size) AA) (λ_ h=>h) (λ_ _ _ h=>Ex.bt h)⟩,m⟩
def rj:(prog.info? 227).map (λi=>(i.zero,i.size,i.bytes))=some (some (.agg #[I6 0,I6 0,.string ⟨#[]⟩,.slice none 0 0]),4,56):=qf
def zlL(x:Ac)(a b){q}(w)(c:Bf q w a x.args)(i:x.le 1048576) :
  Ca 186 #[.agg #[I6 x.kind,I6 x.k,.string x.ak,.slice a x.args.length b]] w λe w'=>
   (∃O o,e=.returned (.agg #[I6 x.kind,I6 x.k,.string x.ak,.slice O x.args.length o])/\Bf (some w.heap.size) w' O x.args)/\Bw w w':=by
 obtain⟨s,j⟩:=i;go_enter func186,ntmps186;go_wp2_with (go_at_call 23;refine(kQ a b x.args _ (c.J Ba) j).ac ?_;rintro e d ⟨⟨g,z,rfl,p⟩,f⟩;have r:Bw w d:=Ba.aj f;obtain⟨y,m1,t⟩:=Ev (m:=d.heap.size) (n:=w.heap.size) (by have:=f.size;simp at this;omega);obtain⟨l,u⟩:=Ah f;have Y:Bf (some (w.heap.size+3)) d _ x.args:=p.ax qo);refine bodyPost_ret (v:=.agg #[I6 x.kind,I6 x.k,.string x.ak,.slice (some ⟨g,0,none⟩) x.args.length x.args.length]) (by simp[results,results186,go_sem,l]) rfl ⟨⟨some ⟨g,0,none⟩,x.args.length,rfl,?_⟩,?_⟩
 .refine Bf.ax (B:=w.heap.size+3) qd ?_
  repeat refine Bf.low ?_ (Du.setCell qd _)
  exact Y
 repeat refine WM ?_ qo _
 exact r
def zkG(a c xs w){q}(hv:C9 q w a xs)(n:CP Ac.le 1048576 xs) :
  Ca 132 #[.slice a xs.length c] w λe w'=>
   (∃g,w.heap.size<=g/\e=.returned (.slice (some ⟨g,0,none⟩) xs.length xs.length)/\C9 (some w.heap.size) w' (some ⟨g,0,none⟩) xs)/\Bw w w':=by
 obtain⟨hl,n⟩:=n;have C:=M7 (P:=prog) 51 227 _ 4 56 underlying51 rj xs.length qd qd;go_enter func132,ntmps132;go_wp2;clear C
 go_loopw [4] (λi wr=>∃(k:Nat),k<=xs.length/\i=I6 k/\Dx (Ac.R (some (w.heap.size+1))) 227 4 wr w.heap.size xs.length (xs.take k)/\Bw w wr) (mz xs.length)
 case atStart=>exact⟨0,qd,rfl,Dx.start _ _,Af⟩
 case round=>
  obtain⟨k,I,rfl,ho,s⟩:=hrel;by_cases m:k<xs.length
  .obtain⟨x,p⟩:=AJ m;obtain⟨b,o,f,j,rfl,D,U,K,c2,E,d⟩:=(hv.J s).get p;have v:=n x (yd p);go_wp2_with (go_at_call 186;refine(zlL x f j _ d v).ac ?_;rintro e w' ⟨⟨u,Y,rfl,z⟩,l⟩;have O:=Dx.J (w':=w') ho (λ_ _ _⟨f,j,e,d⟩=>⟨f,j,e,d.J l⟩) l;obtain⟨x0,y⟩:=O.room m 0 qd;have A:=O.free (k*4+0);obtain⟨x1,G⟩:=O.room m 1 qd;have M:=O.free (k*4+1);obtain⟨N,T⟩:=O.room m 2 qd;have W:=O.free (k*4+2);obtain⟨H,L⟩:=O.room m 3 qd;have Z:=O.free (k*4+3);simp only[YJ]at y A);go_roundw
   case rel=>
    refine⟨k+1,qd,ql,?_,((((s.aj l).setCell qn _).setCell qn _).setCell qn _).setCell qn _⟩;rw[GC xs k x p];have t:=O.put (x:=x) (r:=[I6 x.kind,I6 x.k,.string x.ak,.slice u x.args.length Y]) (k:=k) qg m rfl (⟨u,Y,rfl,z.ax QF⟩) (λ_ _ _⟨f,j,e,d⟩=>⟨f,j,e,d.low (Du.setCells qd _ _ _)⟩);rw[zK]at t;exact t
   case measure=>(simp;omega)
  go_wp2;go_ret;rw[yu qd]at ho;exact⟨⟨w.heap.size,yX _,rfl,Bq.aK (ho.at (B:=w.heap.size) AA) (λ_ h=>h) (λ_ _ _⟨f,j,e,d⟩=>⟨f,j,e,d.ax qd⟩)⟩,s⟩
def tZ:(prog.info? 53).map (λi=>(i.zero,i.size,i.bytes))=some (some (.agg #[.string ⟨#[]⟩,I6 0,.slice none 0 0,.slice none 0 0,.slice none 0 0]),5,96):=qf
def zoU(x:Ru)(c f a d b g){q}(w)(ay:CH q w c x.af)(i:BP q w a x.exprs)(K:C9 q w b x.ao)(Z:x.le 1048576) :
  Ca 68 #[.agg #[.string x.name,I6 x.aH,.slice c x.af.length f,.slice a x.exprs.length d,.slice b x.ao.length g]] w λe w'=>
   (∃A N E D H au,e=.returned (.agg #[.string x.name,I6 x.aH,.slice A x.af.length N,.slice E x.exprs.length D,.slice H x.ao.length au])/\CH (some w.heap.size) w' A x.af/\BP (some w.heap.size) w' E x.exprs/\C9 (some w.heap.size) w' H x.ao/\x.exprs.length<=D)/\Bw w w':=by
 obtain⟨aE,aB,W,az⟩:=Z;go_enter func68,ntmps68;go_wp2_with (first|(go_at_call 130;refine(ziq c f x.af _ (ay.J Ba) aB).ac ?_;rintro e s ⟨⟨G,aL,rfl,aH⟩,u⟩;have I:Bw w s:=Ba.aj u;obtain⟨n1,m1,l1⟩:=Ev (m:=s.heap.size) (n:=w.heap.size) (by have:=u.size;simp at this;omega);obtain⟨M,f1⟩:=Ah u;have U:CH (some (w.heap.size+3)) s _ x.af:=aH.ax qo)|(go_at_call 131;refine(zmF a d x.exprs _ (i.J ((I).setCell qo _)) W).ac ?_;rintro e y ⟨⟨C,aJ,rfl,aI⟩,Y⟩;have r:Bw w y:=((I).setCell qo _).j (Y.ac qo);obtain⟨n2,m2,l2⟩:=Ev (m:=y.heap.size) (n:=w.heap.size) (by have:=Y.size;simp at this;omega);obtain⟨l,o⟩:=Ah Y;obtain⟨l,o⟩:=Ah Y;obtain⟨l,o⟩:=Ah Y;obtain⟨l,o⟩:=Ah Y;obtain⟨l,o⟩:=Ah Y;obtain⟨l,o⟩:=Ah Y;obtain⟨l,o⟩:=Ah Y;obtain⟨l,o⟩:=Ah Y;obtain⟨l,o⟩:=Ah Y;obtain⟨l,o⟩:=Ah Y;have am:BP (some (w.heap.size+3)) y _ x.exprs:=aI.ax qo;have T:=((U).low (Du.setCell qd _)).J Y)|(go_at_call 132;refine(zkG b g x.ao _ (K.J ((r).setCell qo _)) az).ac ?_;rintro e t ⟨⟨z,aK,rfl,R⟩,O⟩;have aG:Bw w t:=((r).setCell qo _).j (O.ac qo);obtain⟨n3,m3,l3⟩:=Ev (m:=t.heap.size) (n:=w.heap.size) Zq;obtain⟨k,p⟩:=Ah O;obtain⟨k,p⟩:=Ah O;obtain⟨k,p⟩:=Ah O;obtain⟨k,p⟩:=Ah O;obtain⟨k,p⟩:=Ah O;obtain⟨k,p⟩:=Ah O;obtain⟨k,p⟩:=Ah O;obtain⟨k,p⟩:=Ah O;obtain⟨k,p⟩:=Ah O;obtain⟨k,p⟩:=Ah O;have L:C9 (some (w.heap.size+3)) t _ x.ao:=R.ax qo;have aq:=((T).low (Du.setCell qd _)).J O;have ak:=((am).low (Du.setCell qd _)).J O));refine bodyPost_ret (v:=.agg #[.string x.name,I6 x.aH,.slice (some ⟨G,0,none⟩) x.af.length x.af.length,.slice (some ⟨C,0,none⟩) x.exprs.length x.exprs.length,.slice (some ⟨z,0,none⟩) x.ao.length x.ao.length]) (by simp[results,results68,go_sem,M,l,k,m1,m2]) rfl ⟨⟨some ⟨G,0,none⟩,x.af.length,some ⟨C,0,none⟩,x.exprs.length,some ⟨z,0,none⟩,x.ao.length,rfl,?_,?_,?_,yX _⟩,?_⟩
 .refine CH.ax (B:=w.heap.size+3) qd ?_
  repeat refine CH.low ?_ (Du.setCell qd _)
  exact aq
 .refine BP.ax (B:=w.heap.size+3) qd ?_
  repeat refine BP.low ?_ (Du.setCell qd _)
  exact ak
 .refine C9.ax (B:=w.heap.size+3) qd ?_
  repeat refine C9.low ?_ (Du.setCell qd _)
  exact L
 repeat refine WM ?_ qo _
 exact aG
def znt(a c xs w){q}(hv:Do q w a xs)(y:CP Ru.le 1048576 xs) :
  Ca 22 #[.slice a xs.length c] w λe w'=>
   (∃g,w.heap.size<=g/\e=.returned (.slice (some ⟨g,0,none⟩) xs.length xs.length)/\Do (some w.heap.size) w' (some ⟨g,0,none⟩) xs)/\Bw w w':=by
 obtain⟨hl,y⟩:=y;have W:=M7 (P:=prog) 24 53 _ 5 96 underlying24 tZ xs.length qd qd;go_enter func22,ntmps22;go_wp2;clear W
 go_loopw [4] (λi wr=>∃(k:Nat),k<=xs.length/\i=I6 k/\Dx (Ru.R (some (w.heap.size+1))) 53 5 wr w.heap.size xs.length (xs.take k)/\Bw w wr) (mz xs.length)
 case atStart=>exact⟨0,qd,rfl,Dx.start _ _,Af⟩
 case round=>
  obtain⟨k,hk,rfl,ho,A⟩:=hrel;by_cases v:k<xs.length
  .obtain⟨x,z⟩:=AJ v;obtain⟨b,o,p,l,j,f,n,m,rfl,hq,c0,c1,c2,c3,c4,Y,d,u,O⟩:=(hv.J A).get z;have L:=y x (yd z);go_wp2_with (go_at_call 68;refine(zoU x p l j f n m _ Y d u L).ac ?_;rintro e w' ⟨⟨H,D,G,C,I,K,rfl,N,Z,M,O⟩,t⟩;have s:=Dx.J (w':=w') ho (λ_ _ _⟨p,l,j,f,n,m,e,Y,d,u,O⟩=>⟨p,l,j,f,n,m,e,Y.J t,d.J t,u.J t,O⟩) t;obtain⟨x0,T⟩:=s.room v 0 qd;have U:=s.free (k*5+0);obtain⟨x1,y1⟩:=s.room v 1 qd;have f1:=s.free (k*5+1);obtain⟨x2,y2⟩:=s.room v 2 qd;have f2:=s.free (k*5+2);obtain⟨x3,y3⟩:=s.room v 3 qd;have f3:=s.free (k*5+3);obtain⟨x4,y4⟩:=s.room v 4 qd;have f4:=s.free (k*5+4);simp only[YJ]at T U);go_roundw
   case rel=>
    refine⟨k+1,qd,ql,?_,(((((A.aj t).setCell qn _).setCell qn _).setCell qn _).setCell qn _).setCell qn _⟩;rw[GC xs k x z];have E:=s.put (x:=x) (r:=[.string x.name,I6 x.aH,.slice H x.af.length D,.slice G x.exprs.length C,.slice I x.ao.length K]) (k:=k) qg v rfl (⟨H,D,G,C,I,K,rfl,N.ax QF,Z.ax QF,M.ax QF,O⟩) (λ_ _ _⟨p,l,j,f,n,m,e,Y,d,u,O⟩=>⟨p,l,j,f,n,m,e,Y.low (Du.setCells qd _ _ _),d.low (Du.setCells qd _ _ _),u.low (Du.setCells qd _ _ _),O⟩);rw[z8]at E;exact E
   case measure=>(simp;omega)
  go_wp2;go_ret;rw[yu qd]at ho;exact⟨⟨w.heap.size,yX _,rfl,Bq.aK (ho.at (B:=w.heap.size) AA) (λ_ h=>h) (λ_ _ _⟨p,l,j,f,n,m,e,Y,d,u,O⟩=>⟨p,l,j,f,n,m,e,Y.ax qd,d.ax qd,u.ax qd,O⟩)⟩,A⟩
structure Eo{α:Type} (lt:α->α->Bool):Prop where
 asym:∀a b,lt a b=true->lt b a=false
 j:∀a b c,lt a b=true->lt b c=true->lt a c=true
 same:∀a b,lt a b=false->lt b a=false->a=b
def Eo.le_trans{α d}(h:Eo d){a b c:α}(k:d b a=false)(g:d c b=false):d c a=false:=by
 cases f:d c a with
 |false=>rfl
 |true=>
  cases i:d a b with
  |true=>
   have:=h.j c a b f i;rw[g]at this;exact this.ai
  |false=>
   have e:=h.same a b i k;subst e;rw[g]at f;exact f.ai
def Eo.le_of_lt{α c}(h:Eo c){a b:α}(d:c a b=true):c b a=false:=h.asym a b d
def Od{α:Type}(f:Nat->α)(i j:Nat):Nat->α:=λk=>if k=i then f j else if k=j then f i else f k
def EZ(k:Nat):Nat:=(k-1)/2
structure ZC{α:Type} (lt:α->α->Bool) (f:Nat->α) (n j:Nat):Prop where
 rest:∀k,k<n->0<k->k≠j->lt (f k) (f (EZ k))=false
 kids:∀k,k<n->0<k->EZ k=j->0<j->lt (f k) (f (EZ j))=false
structure TN{α:Type} (lt:α->α->Bool) (f:Nat->α) (n i:Nat):Prop where
 rest:∀k,k<n->0<k->EZ k≠i->lt (f k) (f (EZ k))=false
 kids:∀k,k<n->0<k->EZ k=i->0<i->lt (f k) (f (EZ i))=false
def Ol{k}(h:0<k):EZ k<k:=by unfold EZ;omega
def ZC.step{α d}(l:Eo d){f:Nat->α}{n j}(h:ZC d f n j)(hj:j<n)(o:0<j)(hl:d (f j) (f (EZ j))=true):ZC d (Od f (EZ j) j) n (EZ j):=by
 have s:=Ol o;have Y:=l.le_of_lt hl;refine⟨λk b O i=>?_,λk b O q a=>?_⟩
 .unfold Od;by_cases e:k=j
  .subst e;rw[if_neg qd,if_pos rfl,if_pos rfl];exact Y
  rw[if_neg i,if_neg e];by_cases g:EZ k=EZ j
  .rw[if_pos g];have c:=h.rest k b O e;rw[g]at c;exact l.le_trans Y c
  rw[if_neg g];by_cases m:EZ k=j
  .rw[if_pos m];exact h.kids k b O m o
  rw[if_neg m];exact h.rest k b O e
 have r:=Ol a;unfold Od;rw[if_neg (show¬EZ (EZ j)=EZ j by omega),if_neg (show¬EZ (EZ j)=j by omega)];have p:=h.rest (EZ j) qd a qd;by_cases e:k=j
 .subst e;rw[if_neg qd,if_pos rfl];exact p
 rw[if_neg (by have:=Ol O;omega),if_neg e];have c:=h.rest k b O e;rw[q]at c;exact l.le_trans p c
def TN.step{α a}(p:Eo a){f:Nat->α}{n i j}(h:TN a f n i)(hj:j<n)(m:0<j)(d:EZ j=i)(q:∀k,k<n->0<k->EZ k=i->a (f k) (f j)=false)(hl:a (f j) (f i)=true):TN a (Od f i j) n j:=by
 have s:i<j:=by rw[<-d];exact Ol m
 have r:=p.le_of_lt hl;refine⟨λk b O g=>?_,λk b O Y t=>?_⟩
 .have Y:=Ol O;unfold Od;by_cases e:k=i
  .subst e;rw[if_pos rfl,if_neg qd,if_neg qd];exact h.kids j hj m d qd
  rw[if_neg e];by_cases l:k=j
  .subst l;rw[if_pos rfl,d,if_pos rfl];exact r
  rw[if_neg l];by_cases c:EZ k=i
  .rw[if_pos c];exact q k b O c
  rw[if_neg c,if_neg g];exact h.rest k b O c
 have u:=Ol O;unfold Od;rw[if_neg qd,if_neg qd,d,if_pos rfl];have o:=h.rest k b O qd;rw[Y]at o;exact o
def upto{α:Type}(f:Nat->α)(n:Nat):List α:=(List.range n).map f
structure Q7{α:Type} (lt:α->α->Bool) (all out:List α) (f:Nat->α) (n:Nat):Prop where
 perm:(out++upto f n).Perm all
 sort:out.Pairwise (λa b=>lt b a=false)
 rest:∀a∈out,∀k,k<n->lt (f k) a=false
def Q7.end{α:Type}{c:α->α->Bool}{all out:List α}{f:Nat->α}(h:Q7 c all out f 0):out.Perm all/\out.Pairwise (λa b=>c b a=false):=by
 refine⟨?_,h.sort⟩;have:=h.perm;simpa[upto] using this
structure EN{α:Type} (c:α->α->Int):Prop where
 swap:∀a b,c b a =-c a b
 le:∀a b d,c a b<=0->c b d<=0->c a d<=0
 lt:∀a b d,c a b<=0->c b d<=0->(c a b<0∨c b d<0)->c a d<0
def EN.zero{α c}(h:EN c){a b d:α}(i:c a b=0)(f:c b d=0):c a d=0:=by
 have g:=h.le a b d qd qd;have e:=h.le d b a (by rw[h.swap b d];omega) (by rw[h.swap a b];omega);rw[h.swap a d]at e;omega
def EN.map{α β c}(h:EN c)(g:β->α):EN (λa b=>c (g a) (g b)):=⟨λ_ _=>h.swap _ _,λ_ _ _=>h.le _ _ _,λ_ _ _=>h.lt _ _ _⟩
def EN.or{α}{c e:α->α->Int}(h:EN c)(k:EN e):EN (λa b=>if c a b=0 then e a b else c a b):=by
 have key:∀a b d,(if c a b=0 then e a b else c a b)<=0->(if c b d=0 then e b d else c b d)<=0->(c a d<0/\(c a b<0∨c b d<0))∨(c a d=0/\c a b=0/\c b d=0/\e a b<=0/\e b d<=0):=by
  intro a b d i f;by_cases j:c a b=0
  .rw[if_pos j]at i;by_cases g:c b d=0
   .rw[if_pos g]at f;exact .inr ⟨h.zero j g,j,g,i,f⟩
   rw[if_neg g]at f;exact .inl ⟨h.lt a b d qd f (.inr qd),.inr qd⟩
  rw[if_neg j]at i;by_cases g:c b d=0
  .exact .inl ⟨h.lt a b d i qd (.inl qd),.inl qd⟩
  rw[if_neg g]at f;exact .inl ⟨h.lt a b d i f (.inl qd),.inl qd⟩
 refine⟨λa b=>?_,λa b d i f=>?_,λa b d i f o=>?_⟩
 .have q:=h.swap a b;have p:=k.swap a b;by_cases z:c a b=0
  .rw[if_pos z,if_pos qd];exact p
  rw[if_neg z,if_neg qd];exact q
 .rcases key a b d i f with⟨l,_⟩|⟨z,j,g,m,n⟩
  .rw[if_neg qd];omega
  rw[if_pos z];exact k.le a b d m n
 rcases key a b d i f with⟨l,_⟩|⟨z,j,g,m,n⟩
 .rw[if_neg qd];exact l
 rw[if_pos z];rw[if_pos j,if_pos g]at o;exact k.lt a b d m n o
def rK:EN Lib.compareInt:=by
 refine⟨λa b=>?_,λa b d g f=>?_,λa b d g f i=>?_⟩
 .rcases Fr a b with⟨p,q⟩|⟨p,q⟩|⟨p,q⟩<;>rcases Fr b a with⟨O,q'⟩|⟨O,q'⟩|⟨O,q'⟩<;>omega
 rotate_left;rotate_left
 all_goals
  rcases Fr a b with⟨p,q⟩|⟨p,q⟩|⟨p,q⟩<;>rcases Fr b d with⟨O,q'⟩|⟨O,q'⟩|⟨O,q'⟩<;>rcases Fr a d with⟨e,c⟩|⟨e,c⟩|⟨e,c⟩<;>omega
def Uy:∀(a b d:List Int),Az a b<=0->Az b d<=0->Az a d<=0/\((Az a b<0∨Az b d<0)->Az a d<0)
 |[],[],[],_,_=>by simp[Az]
 |[],[],_::_,_,_=>by simp[Az]
 |[],_::_,[],_,h=>by simp[Az]at h
 |[],_::_,_::_,_,_=>by simp[Az]
 |_::_,[],_,h,_=>by simp[Az]at h
 |_::_,_::_,[],_,h=>by simp[Az]at h
 |x::a,y::b,z::d,h1,h2=>by
  have Y:=Uy a b d
  simp only[Az]at h1 h2⊢
  rcases Fr x y with⟨p,q⟩|⟨p,q⟩|⟨p,q⟩<;>rcases Fr y z with⟨O,q'⟩|⟨O,q'⟩|⟨O,q'⟩<;>rcases Fr x z with⟨e,c⟩|⟨e,c⟩|⟨e,c⟩
  all_goals first|(exfalso;omega)|(rw[q]at h1⊢;rw[q']at h2⊢;rw[c];simp at h1 h2⊢;done)|(rw[q]at h1⊢;rw[q']at h2⊢;rw[c];simp at h1 h2⊢;exact Y h1 h2)
def rc:EN Az:=⟨λa b=>jL a b,λa b d e c=>(Uy a b d e c).1,λa b d e c f=>(Uy a b d e c).2 f⟩
def gA:∀(a b:List Int),Az a b=0->a=b
 |[],[],_=>rfl
 |[],_::_,h=>by simp[Az]at h
 |_::_,[],h=>by simp[Az]at h
 |x::a,y::b,h=>by
  simp only[Az]at h
  rcases Fr x y with⟨p,q⟩|⟨p,q⟩|⟨p,q⟩
  .rw[q]at h
   simp at h
  .rw[q]at h
   simp at h
  rw[q,if_pos rfl]at h
  rw[p,gA a b h]
structure It where
 au:Int
 al:List Int
abbrev Eh:=It × Value
def Dk(x:Eh):List Value:=[.int .i64 x.1.au,x.2]
structure Gs(w:World) (base:Nat) (x:Eh):Prop where
 ts:∃a c,x.2=.slice a x.1.al.length c
 ot:w.ownsRow base 3 1 x.2 x.1.al.length (Am x.1.al)
structure Iw(w:World) (b1 base:Nat) (a:Option Addr) (c:Nat) (L:List Eh):Prop where
 row:w.ownsRow b1 45 2 (.slice a L.length c) L.length (L.flatMap Dk)
 all:∀x∈L,Gs w base x
def Iw.nil(w a base):Iw w a base none 0 []:=⟨y9 _ _ _ _,λx hx=>qN⟩
def Gs.ar{w w' base x}(h:Gs w base x)(a:Bw w w'):Gs w' base x:=⟨h.ts,Bg h.ot a⟩
def Gs.lower{w base base' x}(h:Gs w base x)(a:base'<=base):Gs w base' x:=⟨h.ts,DT h.ot a⟩
def Iw.ar{w w' b base a c L}(h:Iw w b base a c L)(d:Bw w w'):Iw w' b base a c L:=⟨Bg h.row d,λx e=>(h.all x e).ar d⟩
def Iw.lower{w b base O base' a c L}(h:Iw w b base a c L)(f:O<=b)(d:base'<=base):Iw w O base' a c L:=⟨DT h.row f,λx e=>(h.all x e).lower d⟩
def Gs.grown{w w' base t x row}(h:Gs w base x)(a:w.grownBy w' row)(b:∀k,row=some k->∃c,w.heap[k]?=some (.cells c t (0,0)))(d:t≠3):Gs w' base x:=⟨h.ts,MJ h.ot a b d⟩
def Iw.snoc{w w' b base a d c e L x}(h:Iw w b base a c L)(hx:Gs w base x)(ho:w'.ownsRow b 45 2 (.slice d (L.length+1) e) (L.length+1) (L.flatMap Dk++Dk x))(f:w.grownBy w' (Value.slice a L.length c).ownBlock):Iw w' b base d e (L++[x]):=by
 refine⟨Qz,λy hy=>?_⟩;have O:Gs w base y:=by
  exact my
 exact O.grown f (λk g=>A8 h.row g) qh
def Iw.get{w b base a c L}(h:Iw w b base a c L){i x}(d:L[i]?=some x) :
  ∃k,a=some ⟨k,0,none⟩/\b<=k/\k<w.heap.size/\At w k (i*2) (I6 x.1.au)/\At w k (i*2+1) x.2/\w.frozen? ⟨k,i*2,none⟩=false:=by
 have key:=λj u(hj:(Dk x)[j]?=some u)=>CC h.row (Ig (cells:=Dk) (m:=2) (λ_=>rfl) L i x j u d hj);obtain⟨k,rfl,g,O,e⟩:=key 0 _ rfl;obtain⟨n,f,_,l,_⟩:=key 1 _ rfl;cases f;exact⟨k,rfl,g,yZ w ⟨k,_,none⟩ O,O,l,e⟩
def mI{w base x}(h:Gs w base x):∀u∈Dk x,u.oneCell'=true:=by
 obtain⟨⟨a,c,b⟩,_⟩:=h;intro u hu;simp[Dk]at hu;rcases hu with rfl|rfl
 .rfl
 rw[b];rfl
def RO:(prog.info? 45).map (λi=>(i.zero,i.size,i.bytes))=some (some (.agg #[I6 0,.slice none 0 0]),2,32):=qf
def Ha(w:World)(a:Option Addr)(L:List It):Prop:=
 ∀(i:Nat)(x:It),L[i]?=some x->∃b o a' c',a=some ⟨b,o,none⟩/\w.cell? ⟨b,o+i*2,none⟩=some (.int .i64 x.au)/\w.cell? ⟨b,o+i*2+1,none⟩=some (.slice a' x.al.length c')/\Bf none w a' x.al
def Ha.J{w w' a L}(h:Ha w a L)(c:Bw w w'):Ha w' a L:=by
 intro i x d;obtain⟨b,o,g,k,e,O,j,f⟩:=h i x d;exact⟨b,o,g,k,e,zab c O,zab c j,f.J c⟩
def Iw.at{w g base a c M}(h:Iw w g base a c M):Ha w a (M.map Prod.fst):=by
 intro i x b;rw[yx]at b;obtain⟨y,f,rfl⟩:=Ya.1 b;obtain⟨k,rfl,_,_,O,h1,_⟩:=h.get f;obtain⟨⟨j,l,e⟩,d⟩:=h.all y (yd f);rw[e]at h1 d;exact⟨k,0,j,l,rfl,qA,qt,Bf.owns d⟩
def Fj(v:Value)(M:List Eh)(g:Nat):Prop:=v.ownBlock=some g∨∃x∈M,x.2.ownBlock=some g
def Iw.range{w base a c M}(h:Iw w base base a c M){g}(b:Fj (.slice a M.length c) M g):base<=g/\g<w.heap.size:=by
 rcases b with b|⟨x,d,b⟩
 .exact h.row.lt g b
 exact(h.all x d).ot.lt g b
def Iw.kept{w w' e base a c M}(h:Iw w e base a c M)(f:∀g,Fj (.slice a M.length c) M g->w'.heap[g]?=w.heap[g]?):Iw w' e base a c M:=
 ⟨BZ h.row (λg b=>f g (.inl b)),λx d=>⟨(h.all x d).ts,BZ (h.all x d).ot (λg b=>f g (.inr ⟨x,d,b⟩))⟩⟩
def El:Obj->Bool
 |.cells _ _ _=>false
 |.map _ _=>false
 |_=>true
def Lx:Obj->Bool
 |.mapIter ..=>true
 |.stringIter ..=>true
 |_=>false
structure Tn(S:Nat->Prop) (p:Obj->Bool) (d:Nat) (A B:World):Prop where
 rest:Below 0 A B
 block:∀(g:Nat)(o:Obj),A.heap[g]?=some o->¬S g->(p o=false∨g<d)->B.heap[g]?=some o
def Tn.j{S p d A B C}(h:Tn S p d A B)(k:Tn S p d B C):Tn S p d A C:=⟨h.rest.j k.rest,λg o c a b=>k.block g o (h.block g o c a b) a b⟩
def Tn.ac{S S' p q d a A B}(h:Tn S p d A B)(e:∀g,S g->S' g)(i:∀o,q o=false->p o=false)(hd:a<=d):Tn S' q a A B:=⟨h.rest,λg o b c f=>h.block g o b (λx=>c (e g x)) (f.imp (i o) (λq=>yh q hd))⟩
def Tn.ab{S p d A B}(h:Bw A B):Tn S p d A B:=⟨h.ac (yA _),λg _ a _ _=>(h.block g (ym.1 a).1).j a⟩
def Tn.bo{S p d A l o o'}(h:A.heap[l]?=some o)(c:p o=true)(hd:d<=l):Tn S p d A (A.putObj l o'):=⟨⟨rfl,rfl,rfl,by simp[World.putObj],λ_ q=>absurd q qd⟩,λg O b _ a=>by
 rw[Yx (λe=>by
  subst e;rw[h]at b;cases b;rcases a with a|a
  .rw[c]at a;cases a
  omega)]
 exact b⟩
def ur(o)(h:El o=false):Lx o=false:=by cases o<;>first|rfl|cases h
def Ue(Kp:World->World->Prop)(R:World->Prop)(W:World):Exit->Act->World->Prop
 |.normal,_,W'=>W.heap.size<=W'.heap.size/\(∀(k:Nat)(o:Obj),W.heap[k]?=some o->El o=true->W'.heap[k]?=some o)/\Kp W W'/\R W'
 |_,_,_=>False
def QZ{α:Type}(n:Nat)(P:Program)(g:Nat)(lb:Array Value)(encs:α->Array Value)(S:Nat->Prop)(Kp:World->World->Prop)(Ok:List α->α->World->World->Prop)(Fin:List α->World->Prop)(w:World):Prop:=
 ∀ (l:Nat) (J:List α->World->Prop) (W:World),Bw w W->(∀ pre A B,J pre A->Tn S Lx w.heap.size A B->J pre B) ->
  (∀(m:Nat)pre x A B,J pre A->Bw A B->Ok pre x A B->YieldAt Fence.wide m P l (encs x) B λe W'=>e=.returned (.bool true)/\J (pre++[x]) W'/\Kp B W')->J [] W ->
  CallsIn Fence.wide n P g (#[.func (.yield l) #[] #[]]++lb) W λe W'=>(∃v,e=.returned v)/\∃xs,J xs W'/\Fin xs W'
def uA{α:Type}{g:Operand}{G:Array Tmp}{assign body:Code}{Q:Exit->Act->World->Prop}{a:Act}{w:World}{n:Nat}{P:Program}
  (h1:1<=n) {gf:Nat}{lb:Array Value} (hg:a.eval g=.func (.func gf) #[] lb) (eg:∀args w,(callFunc gf args).run P w=.ok (.enter gf args) w)
  {encs:α->Array Value} (aD:∀x,(encs x).size=G.size) {S:Nat->Prop} (hS:∀b,S b->b<w.heap.size) {r:World->World->Prop}{Ok:List α->α->World->World->Prop}{Fin:List α->World->Prop}
  (au:QZ (n-1) P gf lb encs S r Ok Fin w) (am:∀{A B C:World},r A B->r B C->r A C) (aB:∀A B,Bw A B->r A B) (ao:∀(W:World)(l:Nat)(o o':Obj),W.heap[l]?=some o->El o=true->Lx o=false->r W (W.putObj l o'))
  (I:List α->World->Prop) (H:∀c A B,I c A->Tn S El w.heap.size A B->I c B) (h0:I [] w)
  (I2:List α->α->World->Prop) (aE:∀c x A B,I c A->Bw A B->Ok c x A B->I2 c x B)
  (y:List α->α->Act->World->Prop) (ax:∀c x f A B,y c x f A->Tn (λ_=>False) El w.heap.size A B->y c x f B)
  (hF:∀xs A B,Fin xs A->Tn (λ_=>False) El w.heap.size A B->Fin xs B)
  (Y:∀ (l m:Nat) (c:List α) (x:α) (W:World) (K:Act->World->Prop),I2 c x W->(∀ f k,Bw W k->y c x f k->K f k) ->
   assign.wpIn (Fence.wide.inRound l) m P (Exit.then K (λ_ _ _=>False)) { tmps:=(G.zip (encs x)).foldl (λt(p,v)=>t.setIfInBounds p v) a.tmps,defers:=[] } W)
  (ah:∀(l m:Nat)(c:List α)(x:α)(f:Act)(W:World),y c x f W->body.wpIn (Fence.wide.inRound l) m P (Ue r (I (c++[x])) W) f W)
  (ak:∀(D:Nat)(xs:List α)(W:World),w.heap.size<=D->I xs W->Fin xs W->W.heap[D]?=some (.deferred (some []))->Q .normal { a with defers:={ target:=.collected D,args:=#[] }::a.defers } W) :
  (Code.rangeFunc g G assign body).wpIn Fence.wide n P Q a w:=by
 refine wpIn_rangeFunc ?_;intro fn aG;obtain⟨d,O⟩:∃d:LoopState->Loop,d=λst=>{ state:=st,pending:=none,fn,tmps:=a.tmps,params:=G,assign,body,defers:=w.heap.size }:=⟨_,rfl⟩
 obtain⟨i,u⟩:∃i,i=(w.alloc (.deferred (some []))).alloc (.loop (d .ready)):=⟨_,rfl⟩
 have ar:Bw w i:=by
  rw[u];exact((Yw _ w).alloc AA _).alloc qe _
 have az:i.heap[w.heap.size+1]?=some (.loop (d .ready)):=by
  rw[u];have:=World.alloc_heap_new (w.alloc (.deferred (some []))) (.loop (d .ready));rwa [Wy]at this
 have aA:i.heap[w.heap.size]?=some (.deferred (some [])):=by
  rw[u];exact(yV _ _ _ qe).j (World.alloc_heap_new w _)
 refine⟨w.heap.size+1,[{ target:=.collected w.heap.size,args:=#[] }],i,{ target:=.fn (.func gf) lb,args:=#[.func (.yield (w.heap.size+1)) #[] #[]] },i,gf,#[.func (.yield (w.heap.size+1)) #[] #[]]++lb,i,?_,?_,λ_ _=>trivial,?_,λ_=>h1,?_⟩
 .rw[u,O];exact run_enterLoop_outer _ _ _ _ _
 .simp only[resolve,hg];simp[go_sem]
 .simp[invoke,go_sem,eg]
 refine(au (w.heap.size+1) (λc W=>I c W/\W.heap[w.heap.size+1]?=some (.loop (d .ready))/\W.heap[w.heap.size]?=some (.deferred (some []))) i ar ?_ ?_ ⟨H _ _ _ h0 (Tn.ab ar),az,aA⟩).ac ?_
 .rintro c A B ⟨M,E,J⟩ T;exact⟨H c A B M (T.ac (λ_ h=>h) ur AA),T.block _ _ E (λq=>by have:=hS _ q;omega) (.inl rfl),T.block _ _ J (λq=>by have:=hS _ q;omega) (.inl rfl)⟩
 .rintro m c x A B ⟨M,E,J⟩ L R;have U:=(L.block _ (ym.1 E).1).j E;have j3:=(L.block _ (ym.1 J).1).j J;have hy:=run_yield (P:=P) (args:=encs x) U (by rw[O];exact aD x);rw[O]at hy;refine⟨fn,_,assign,body,hy,roundIn_of_wpIn aG (Y _ _ c x B _ (aE c x A B M L R) ?_)⟩;clear hy;intro f k N hi3;have z:=(N.block _ (ym.1 U).1).j U;have k3:=(N.block _ (ym.1 j3).1).j j3;have aa:=(ym.1 z).1;refine⟨_,run_beginRound z (by rw[O]),?_⟩;have aC:Tn (λ_=>False) El w.heap.size k (k.putObj (w.heap.size+1) (.loop { d .ready with state:=.busy })):=Tn.bo z rfl qd;have l2:(k.putObj (w.heap.size+1) (.loop { d .ready with state:=.busy })).heap[w.heap.size+1]?=some (.loop { d .ready with state:=.busy }):=World.putObj_heap_same aa;have l3:(k.putObj (w.heap.size+1) (.loop { d .ready with state:=.busy })).heap[w.heap.size]?=some (.deferred (some [])):=(Yx qd).j k3;have aF:=ao k (w.heap.size+1) _ (.loop { d .ready with state:=.busy }) z rfl rfl;refine wpIn_mono (ah _ _ c x f _ (ax _ _ _ _ _ hi3 aC)) ?_;rintro e a3 W3 s;cases e with
  |normal=>
   obtain⟨_,av,ay,Z⟩:=s;have m2:=av _ _ l2 rfl;have m3:=av _ _ l3 rfl;have aw:=run_endRound (P:=P) none m2;refine⟨_,_,aw,rfl,⟨H _ _ _ Z (Tn.bo m2 rfl qd),?_,(Yx qd).j m3⟩,am (aB _ _ N) (am aF (am ay (ao _ _ _ _ m2 rfl rfl)))⟩;rw[World.putObj_heap_same (ym.1 m2).1,O];rfl
  |ret=>exact s.elim
  |exit id=>exact s.elim
  |goto t=>exact s.elim
  |panic ch=>exact s.elim
  |outgrown=>exact s.elim
 rintro e W2 ⟨⟨v,rfl⟩,xs,⟨Z,hl,hd⟩,aq⟩;refine⟨none,_,?_,ak w.heap.size xs _ AA (H _ _ _ Z (Tn.bo (o':=.loop { d .ready with state:=.exhausted }) hl rfl qd)) (hF _ _ _ aq (Tn.bo hl rfl qd)) ((Yx qd).j hd)⟩;have:=run_endLoop (P:=P) hl (by rw[O];simp);rw[O]at this⊢;exact this
section
attribute [local go_sem ↓] wp_at_zero wp_at_succ
def CW(k:Int)(n:Nat):List Int:=(List.range n).map λ(j:Nat)=>k+(j:Int)
def UX(k n):(CW k n).length=n:=by simp[CW]
def xe(k n):CW k (n+1)=CW k n++[k+(n:Int)]:=by simp[CW,Xx]
def tx(k n i)(h:i<n):(CW k n)[i]?=some (k+(i:Int)):=by simp[CW,h]
def zl2(a c xs base O w)(f:w.ownsRow base 3 1 (.slice a xs.length c) xs.length (Am xs))(hl:xs.length<=1048576)(D:0<O)(E:O+(xs.length:Int)<=1000000000000) :
  Ca 30 #[.slice a xs.length c,I6 O] w λe w'=>
   e=.returned (I6 (O+(xs.length:Int)))/\w'.ownsRow base 3 1 (.slice a xs.length c) xs.length (Am (CW O xs.length))/\Bi (Value.slice a xs.length c).ownBlock w w':=by
 go_enter func30,ntmps30;go_wp2
 go_loopw [1,5] (λt i wr=>∃(j:Nat),j<=xs.length/\i=I6 j/\t=I6 (O+(j:Int))/\wr.ownsRow base 3 1 (.slice a xs.length c) xs.length (Am (CW O j++xs.drop j))/\Bi (Value.slice a xs.length c).ownBlock w wr) (λ_ i _=>xs.length-(intOf i).toNat)
 case atStart=>exact⟨0,qd,rfl,qe,by simpa[CW] using f,Bi.refl _ _⟩
 case round=>
  obtain⟨j,hj,rfl,rfl,d,p⟩:=hrel;obtain⟨l,m⟩:=Ak d p;clear d p f;by_cases y:j<xs.length
  .obtain⟨v,q⟩:=AJ y;have hd:xs.drop j=v::xs.drop (j+1):=Ck q;have Y:Am (CW O j++xs.drop j)=Am (CW O j)++([Value.int .i64 v]++Am (xs.drop (j+1))):=by
    rw[hd];simp[Am]
   have n:(Am (CW O j)).length=j:=by simp[Am,UX]
   have b:=l.o;rw[Y]at b;obtain⟨g,rfl,C,B,z⟩:=CC (j:=j) (x:=I6 v) b (by rw[yF qd,n];simp);have A:IntKind.i64.wrap (O+(j:Int)+1)=O+((j:Int)+1):=by rw[yS];omega
   have u:=Aa b;clear b Y hd;go_wp2;have k:=(u.o.stored j (I6 (O+(j:Int)))).1;have r:(Am (CW O j)++([Value.int .i64 v]++Am (xs.drop (j+1)))).set j (Value.int .i64 (O+(j:Int)))=Am (CW O (j+1)++xs.drop (j+1)):=by
    rw[KC _ _ qd,n,xe];simp[Am]
   rw[r]at k;have m2:=m.o.j (Bi.set (w:=wr) (g:=g) (o:=j) (I6 (O+(j:Int))));have s:((j+1:Nat):Int)=(j:Int)+1:=qd;go_roundw
   case rel=>exact⟨j+1,qd,ql,by rw[s],k,m2⟩
   case measure=>simp[intOf];omega
  go_wp2;go_ret;obtain rfl:j=xs.length:=qd;have:=l.o;rw[yD AA,yM]at this;exact⟨rfl,this,m.o⟩
def zlk(a c n O w){q}(hv:Bf q w a (CW O n))(hl:n<=1048576)(r:0<O)(l:O+(n:Int)<=1000000000000) :
  Ca 140 #[.slice a n c,I6 O] w λe w'=>
   e=.returned (I6 (O+(n:Int)))/\Bw w w':=by
 go_enter func140,ntmps140;go_wp2
 go_loopw [1,5] (λg i wr=>∃(j:Nat),j<=n/\i=I6 j/\g=I6 (O+(j:Int))/\Bw w wr) (λ_ i _=>n-(intOf i).toNat)
 case atStart=>exact⟨0,qd,rfl,qe,Aj⟩
 case round=>
  obtain⟨j,hj,rfl,rfl,d⟩:=hrel;by_cases k:j<n
  .obtain⟨b,o,f,_,p⟩:=(hv.J d).get (tx O n j k);subst f;have m:IntKind.i64.wrap (O+(j:Int)+1)=O+((j:Int)+1):=by rw[yS];omega
   have Y:((j+1:Nat):Int)=(j:Int)+1:=qd;go_wp2;go_roundw
   case rel=>exact⟨j+1,qd,ql,by rw[Y],d⟩
   case measure=>simp[intOf];omega
  go_wp2;go_ret;obtain rfl:j=n:=qd;exact⟨rfl,d⟩
def VV(a d c j xs w){q q'}(hv:Bf q w a xs)(Y:Bf q' w d xs)(hl:xs.length<=1048576) :
  Ca 27 #[.slice a xs.length c,.slice d xs.length j] w λe w'=>
   e=.returned (.bool true)/\Bw w w':=by
 go_enter func27,ntmps27;go_wp2
 go_loopw [5] (λi wr=>∃(k:Nat),k<=xs.length/\i=I6 k/\Bw w wr) (mz xs.length)
 case atStart=>exact⟨0,qd,rfl,Aj⟩
 case round=>
  obtain⟨k,s,rfl,hb⟩:=hrel;by_cases f:k<xs.length
  .obtain⟨x,O⟩:=AJ f;obtain⟨b,o,rfl,l,r⟩:=(hv.J hb).get O;obtain⟨g,o',rfl,m,n⟩:=(Y.J hb).get O;have t:(0:Int)<=(k:Int):=qd;have p:(k:Int)<(xs.length:Int):=qd;go_wp2
   go_region_held3 (λw'=>At w' b (o+k) (I6 x)/\At w' g (o'+k) (I6 x)) (go_keep) (fail)
   go_wp2;go_roundw
   case rel=>exact⟨k+1,qd,ql,hb.drew⟩
   case measure=>(simp;omega)
  exact J4
def zmY(x:Tm)(w) :
  Ca 272 #[.agg #[I6 x.kind,I6 x.op,.string x.var,I6 x.val.kind,I6 x.val.num,.string x.val.av],.agg #[I6 x.kind,I6 x.op,.string x.var,I6 x.val.kind,I6 x.val.num,.string x.val.av]] w λe w'=>
   e=.returned (.bool true)/\Bw w w':=by
 go_enter func272,ntmps272;go_wp2_with (go_at_call 192;refine(Xf x.val _).an λa O=>?_;have Y:Bw w a:=Ax.aj O);go_ret;exact⟨rfl,Y⟩
def zlz(a f c n xs w){q q'}(hv:CJ q w a xs)(Y:CJ q' w f xs)(d:CP Tm.le 1048576 xs) :
  Ca 243 #[.slice a xs.length c,.slice f xs.length n] w λe w'=>
   e=.returned (.bool true)/\Bw w w':=by
 obtain⟨hl,d⟩:=d;go_enter func243,ntmps243;go_wp2
 go_loopw [5] (λi wr=>∃(k:Nat),k<=xs.length/\i=I6 k/\Bw w wr) (mz xs.length)
 case atStart=>exact⟨0,qd,rfl,Aj⟩
 case round=>
  obtain⟨k,E,rfl,hb⟩:=hrel;by_cases l:k<xs.length
  .obtain⟨x,O⟩:=AJ l;obtain⟨b,o,rfl,r,m,I,M,v,D,y⟩:=(hv.J hb).get O;obtain⟨L,o',rfl,u,g,B,H,A,N,z⟩:=(Y.J hb).get O;have K:(0:Int)<=(k:Int):=qd;have C:(k:Int)<(xs.length:Int):=qd;have t:=d x (yd O);have G:Bw wr wr.drew:=Aj.drew;go_wp2;have p:=ES m;have s:=ES g
   go_region_held3 (Kc wr) ((first | exact Kc.dr | exact Kc.dr.nx hb' qe))
    (first|(go_at_call 272;refine(zmY x _).an λw' hb'=>?_))
   exact Mf
  exact J4
def zix(x:Pt)(a O b Y){q q'}(w)(i:CJ q w a x.aa)(k:CJ q' w O x.aa)(f:x.le 1048576) :
  Ca 189 #[.agg #[.bool x.neg,.string x.ak,.slice a x.aa.length b],.agg #[.bool x.neg,.string x.ak,.slice O x.aa.length Y]] w λe w'=>
   e=.returned (.bool true)/\Bw w w':=by
 obtain⟨m,j⟩:=f;have l:(x.neg != x.neg)=false:=qe;go_enter func189,ntmps189;go_wp2_with (go_at_call 243;refine(zlz a O b Y x.aa _ (i.J Ax) (k.J Ax) j).an λg c=>?_;have d:Bw w g:=Ax.aj c);go_ret;exact⟨rfl,d⟩
def zh3(a m c y xs w){q q'}(hv:CH q w a xs)(p:CH q' w m xs)(g:CP Pt.le 1048576 xs) :
  Ca 135 #[.slice a xs.length c,.slice m xs.length y] w λe w'=>
   e=.returned (.bool true)/\Bw w w':=by
 obtain⟨hl,g⟩:=g;go_enter func135,ntmps135;go_wp2
 go_loopw [5] (λi wr=>∃(k:Nat),k<=xs.length/\i=I6 k/\Bw w wr) (mz xs.length)
 case atStart=>exact⟨0,qd,rfl,Aj⟩
 case round=>
  obtain⟨k,H,rfl,hb⟩:=hrel;by_cases v:k<xs.length
  .obtain⟨x,l⟩:=AJ v;obtain⟨b,o,f,d,rfl,B,u,K,N,r⟩:=(hv.J hb).get l;obtain⟨M,o',t,O,rfl,D,s,E,I,Y⟩:=(p.J hb).get l;have L:(0:Int)<=(k:Int):=qd;have G:(k:Int)<(xs.length:Int):=qd;have z:=g x (yd l);have n:Bw wr wr.drew:=Aj.drew;go_wp2;have A:=ES u;have C:=ES s
   go_region_held3 (Kc wr) ((first | exact Kc.dr | exact Kc.dr.nx hb' qe))
    (first|(go_at_call 189;refine(zix x f t d O _ (r.J n) (Y.J n) z).an λw' hb'=>?_))
   exact Mf
  exact J4
def zmw(x:Ex)(w) :
  Ca 190 #[.agg #[I6 x.kind,.int .u8 x.op,.string x.var,I6 x.val.kind,I6 x.val.num,.string x.val.av,I6 x.a,I6 x.b],.agg #[I6 x.kind,.int .u8 x.op,.string x.var,I6 x.val.kind,I6 x.val.num,.string x.val.av,I6 x.a,I6 x.b]] w λe w'=>
   e=.returned (.bool true)/\Bw w w':=by
 go_enter func190,ntmps190;go_wp2_with (go_at_call 192;refine(Xf x.val _).an λc O=>?_;have Y:Bw w c:=Ax.aj O;have i:At c w.heap.size 6 (I6 x.a):=zab O qk;have f:At c (w.heap.size+1) 6 (I6 x.a):=zab O qk;have g:At c w.heap.size 7 (I6 x.b):=zab O qk;have d:At c (w.heap.size+1) 7 (I6 x.b):=zab O qk);go_ret;exact⟨rfl,Y⟩
def zld(a f c n xs w){q q'}(hv:BP q w a xs)(Y:BP q' w f xs)(d:CP Ex.le 1048576 xs) :
  Ca 136 #[.slice a xs.length c,.slice f xs.length n] w λe w'=>
   e=.returned (.bool true)/\Bw w w':=by
 obtain⟨hl,d⟩:=d;go_enter func136,ntmps136;go_wp2
 go_loopw [5] (λi wr=>∃(k:Nat),k<=xs.length/\i=I6 k/\Bw w wr) (mz xs.length)
 case atStart=>exact⟨0,qd,rfl,Aj⟩
 case round=>
  obtain⟨k,I,rfl,hb⟩:=hrel;by_cases l:k<xs.length
  .obtain⟨x,O⟩:=AJ l;obtain⟨b,o,rfl,r,m,N,U,z,H,A,G,M⟩:=(hv.J hb).get O;obtain⟨T,o',rfl,y,g,D,L,C,W,B,t,u⟩:=(Y.J hb).get O;have R:(0:Int)<=(k:Int):=qd;have E:(k:Int)<(xs.length:Int):=qd;have v:=d x (yd O);have K:Bw wr wr.drew:=Aj.drew;go_wp2;have p:=ES m;have s:=ES g
   go_region_held3 (Kc wr) ((first | exact Kc.dr | exact Kc.dr.nx hb' qe))
    (first|(go_at_call 190;refine(zmw x _).an λw' hb'=>?_))
   exact Mf
  exact J4
def zjw(x:Ac)(a O b Y){q q'}(w)(c:Bf q w a x.args)(j:Bf q' w O x.args)(f:x.le 1048576) :
  Ca 191 #[.agg #[I6 x.kind,I6 x.k,.string x.ak,.slice a x.args.length b],.agg #[I6 x.kind,I6 x.k,.string x.ak,.slice O x.args.length Y]] w λe w'=>
   e=.returned (.bool true)/\Bw w w':=by
 obtain⟨m,l⟩:=f;go_enter func191,ntmps191;go_wp2_with (go_at_call 27;refine(VV a O b Y x.args _ (c.J Ax) (j.J Ax) l).an λg d=>?_;have i:Bw w g:=Ax.aj d);go_ret;exact⟨rfl,i⟩
def zio(a n c z xs w){q q'}(hv:C9 q w a xs)(s:C9 q' w n xs)(l:CP Ac.le 1048576 xs) :
  Ca 137 #[.slice a xs.length c,.slice n xs.length z] w λe w'=>
   e=.returned (.bool true)/\Bw w w':=by
 obtain⟨hl,l⟩:=l;go_enter func137,ntmps137;go_wp2
 go_loopw [5] (λi wr=>∃(k:Nat),k<=xs.length/\i=I6 k/\Bw w wr) (mz xs.length)
 case atStart=>exact⟨0,qd,rfl,Aj⟩
 case round=>
  obtain⟨k,I,rfl,hb⟩:=hrel;by_cases r:k<xs.length
  .obtain⟨x,m⟩:=AJ r;obtain⟨b,o,g,d,rfl,B,v,L,R,D,f⟩:=(hv.J hb).get m;obtain⟨N,o',u,Y,rfl,T,t,G,K,E,O⟩:=(s.J hb).get m;have M:(0:Int)<=(k:Int):=qd;have H:(k:Int)<(xs.length:Int):=qd;have y:=l x (yd m);have p:Bw wr wr.drew:=Aj.drew;go_wp2;have A:=ES v;have C:=ES t
   go_region_held3 (Kc wr) ((first | exact Kc.dr | exact Kc.dr.nx hb' qe))
    (first|(go_at_call 191;refine(zjw x g u d Y _ (f.J p) (O.J p) y).an λw' hb'=>?_))
   exact Mf
  exact J4
def zmy(x:Ru)(f r g t a O c p b Y d o){q q'}(w)(I:CH q w f x.af)(v:CH q' w r x.af)(i:BP q w a x.exprs)(H:BP q' w O x.exprs)(z:C9 q w b x.ao)(E:C9 q' w Y x.ao)(C:x.le 1048576) :
  Ca 71 #[.agg #[.string x.name,I6 x.aH,.slice f x.af.length g,.slice a x.exprs.length c,.slice b x.ao.length d],.agg #[.string x.name,I6 x.aH,.slice r x.af.length t,.slice O x.exprs.length p,.slice Y x.ao.length o]] w λe w'=>
   e=.returned (.bool true)/\Bw w w':=by
 obtain⟨W,K,A,B⟩:=C;go_enter func71,ntmps71;go_wp2_with (first|(go_at_call 135;refine(zh3 f r g t x.af _ (I.J Ax) (v.J Ax) K).an λl m=>?_;have n:Bw w l:=Ax.aj m;have R:At l w.heap.size 3 (.slice a x.exprs.length c):=zab m qk;have N:At l (w.heap.size+1) 3 (.slice O x.exprs.length p):=zab m qk;have u:At l w.heap.size 4 (.slice b x.ao.length d):=zab m qk;have G:At l (w.heap.size+1) 4 (.slice Y x.ao.length o):=zab m qk)|(go_at_call 136;refine(zld a O c p x.exprs _ (i.J (n)) (H.J (n)) A).an λM s=>?_;have k:Bw w M:=(n).j (s.ac (n.size));have U:=zab s u;have T:=zab s G)|(go_at_call 137;refine(zio b Y d o x.ao _ (z.J (k)) (E.J (k)) B).an λD y=>?_;have L:Bw w D:=(k).j (y.ac (k.size))));go_ret;exact⟨rfl,L⟩
def zk4(a u c M xs w){q q'}(hv:Do q w a xs)(K:Do q' w u xs)(s:CP Ru.le 1048576 xs) :
  Ca 26 #[.slice a xs.length c,.slice u xs.length M] w λe w'=>
   e=.returned (.bool true)/\Bw w w':=by
 obtain⟨hl,s⟩:=s;go_enter func26,ntmps26;go_wp2
 go_loopw [5] (λi wr=>∃(k:Nat),k<=xs.length/\i=I6 k/\Bw w wr) (mz xs.length)
 case atStart=>exact⟨0,qd,rfl,Aj⟩
 case round=>
  obtain⟨k,hk,rfl,hb⟩:=hrel;by_cases I:k<xs.length
  .obtain⟨x,t⟩:=AJ I;obtain⟨b,o,n,l,f,g,m,p,rfl,T,G,c1,c2,Z,c4,E,d,L,aw⟩:=(hv.J hb).get t;obtain⟨b',o',y,N,O,Y,A,H,rfl,W,B,d1,d2,d3,d4,z,C,v,au⟩:=(K.J hb).get t;have z0:(0:Int)<=(k:Int):=qd;have z1:(k:Int)<(xs.length:Int):=qd;have D:=s x (yd t);have r:Bw wr wr.drew:=Aj.drew;go_wp2;have R:=ES G;have U:=ES B
   go_region_held3 (Kc wr) ((first | exact Kc.dr | exact Kc.dr.nx hb' qe))
    (first|(go_at_call 71;refine(zmy x n y l N f O g Y m A p H _ (E.J r) (z.J r) (d.J r) (C.J r) (L.J r) (v.J r) D).an λw' hb'=>?_))
   exact Mf
  exact J4
def A5(k:Int):List Nat->Int
 |[]=>k
 |n::r=>A5 (k+1+(n:Int)) r
def Gk(k:Int):List Nat->List It
 |[]=>[]
 |n::r=>⟨k,CW (k+1) n⟩::Gk (k+1+(n:Int)) r
def Sw:∀(a:List Nat)(k:Int),(Gk k a).length=a.length
 |[],_=>rfl
 |n::r,k=>by simp[Gk,Sw r]
def Vx:∀(a:List Nat)(k:Int)(n:Nat),A5 k (a++[n])=A5 k a+1+(n:Int)
 |[],_,_=>rfl
 |m::r,k,n=>by simp only[Ye,A5];exact Vx r _ n
def kf:∀(a:List Nat)(k:Int)(n:Nat),Gk k (a++[n])=Gk k a++[⟨A5 k a,CW (A5 k a+1) n⟩]
 |[],_,_=>rfl
 |m::r,k,n=>by simp only[Ye,Gk,A5];rw[kf r _ n]
def RL{N}:∀(a:List Nat)(k:Int),(∀n∈a,n<=N)->k<=A5 k a/\A5 k a<=k+a.length*(N+1)
 |[],k,_=>by simp[A5]
 |n::r,k,h=>by
  have d:=h n qe
  have c:=RL r (k+1+(n:Int)) (λm b=>h m (by simp[b]))
  simp only[A5,yH]
  have e:((r.length+1:Nat):Int)*((N:Int)+1)=r.length*((N:Int)+1)+((N:Int)+1):=by rw[Kk,Int.add_mul];simp
  omega
def lr{N}(a:List Nat)(k)(h:∀n∈a,n<=N)(j):k<=A5 k (a.take j)/\A5 k (a.take j)<=k+a.length*(N+1):=by
 obtain⟨d,c⟩:=RL (N:=N) (a.take j) k (λn b=>h n (Wa b));refine⟨d,Int.le_trans c ?_⟩;have e:(a.take j).length<=a.length:=by rw[Yo];omega
 simp_all
def OG{α:Type}{l:List α}{j x}(h:l[j]?=some x):l.take (j+1)=l.take j++[x]:=by
 rw[yY,h];rfl
def vu{a k}{j n:Nat}(h:a[j]?=some n):(Gk k a)[j]?=some ⟨A5 k (a.take j),CW (A5 k (a.take j)+1) n⟩:=by
 have hj:j<a.length:=(yf.1 h).1;have key:∀(l:List Nat)(k:Int)(j:Nat),l[j]?=some n->(Gk k l)[j]?=some ⟨A5 k (l.take j),CW (A5 k (l.take j)+1) n⟩:=by
  intro l
  induction l with
  |nil=>intro k j h;simp at h
  |cons m r O=>
   intro k j h;rcases j with _|j
   .simp at h;subst h;rfl
   simp only[Gk,yw,YG,A5];exact O _ _ qq
 exact key a k j h
def zmV(x:It)(a b c d w){q q'}(hv:Bf q w a x.al)(O:Bf q' w b x.al)(hl:x.al.length<=1048576) :
  Ca 188 #[.agg #[I6 x.au,.slice a x.al.length c],.agg #[I6 x.au,.slice b x.al.length d]] w λe w'=>
   e=.returned (.bool true)/\Bw w w':=by
 go_enter func188,ntmps188;go_wp2_with (go_at_call 27;refine(VV a b c d x.al _ (hv.J Ax) (O.J Ax) hl).an λf Y=>?_;have g:Bw w f:=Ax.aj Y);go_ret;exact⟨rfl,g⟩
def ll(a n c y xs w)(hv:Ha w a xs)(t:Ha w n xs)(hl:xs.length<=1048576)(s:∀x∈xs,x.al.length<=1048576) :
  Ca 134 #[.slice a xs.length c,.slice n xs.length y] w λe w'=>
   e=.returned (.bool true)/\Bw w w':=by
 go_enter func134,ntmps134;go_wp2
 go_loopw [5] (λi wr=>∃(k:Nat),k<=xs.length/\i=I6 k/\Bw w wr) (mz xs.length)
 case atStart=>exact⟨0,qd,rfl,Aj⟩
 case round=>
  obtain⟨k,A,rfl,hb⟩:=hrel;by_cases q:k<xs.length
  .obtain⟨x,O⟩:=AJ q;obtain⟨b,o,p,l,rfl,E,B,f⟩:=(hv.J hb) k x O;obtain⟨m,o',g,d,rfl,C,z,Y⟩:=(t.J hb) k x O;have G:(0:Int)<=(k:Int):=qd;have D:(k:Int)<(xs.length:Int):=qd;have u:=s x (yd O);have r:=Aa (λw'(h:Bw wr w')=>zmV x p g l d w' (f.J h) (Y.J h) u);have v:Bw wr wr.drew:=Aj.drew;clear f Y;go_wp2
   go_region_held3 (λw'=>At w' b (o+k * 2) (I6 x.au)/\At w' b (o+k * 2+1) (.slice p x.al.length l)/\At w' m (o'+k * 2) (I6 x.au)/\At w' m (o'+k * 2+1) (.slice g x.al.length d)) ((go_split_ands;refine ⟨?_,?_,?_,?_⟩ <;> first | (simp[*];done) | exact zab hb' (by simp[*])))
    (first|(go_at_call 188;refine(r.o _ v).an λw' hb'=>?_))
   exact Mf
  exact J4
def kw{L:List Eh}{j:Nat}{x v}(h:L[j]?=some (x,v))(K):(L.flatMap Dk).set (j*2) (I6 K)=(L.set j (⟨K,x.al⟩,v)).flatMap Dk:=by
 have key:∀(l:List Eh)(j:Nat),l[j]?=some (x,v)->(l.flatMap Dk).set (j*2) (I6 K)=(l.set j (⟨K,x.al⟩,v)).flatMap Dk:=by
  intro l
  induction l with
  |nil=>intro j h;simp at h
  |cons y r O=>
   intro j h;rcases j with _|j
   .simp at h;subst h;simp[Dk]
   rw[yw]at h;rw[yE,yG,yE,KC _ _ (by simp[Dk];omega),show(j+1)*2-(Dk y).length=j*2 by simp[Dk];omega,O j h]
 exact key L j h
def Iw.au{w b base g c L}{j:Nat}{x v}(h:Iw w b base (some ⟨g,0,none⟩) c L)(hj:L[j]?=some (x,v))(K):Iw (w.setCell ⟨g,j*2,none⟩ (I6 K)) b base (some ⟨g,0,none⟩) c (L.set j (⟨K,x.al⟩,v)):=by
 obtain⟨cc,f⟩:=A8 h.row (k:=g) rfl;refine⟨?_,λy a=>?_⟩
 .have e:=(h.row.stored (j*2) (I6 K)).1;rw[kw hj K]at e;simpa using e
 have O:Gs w base y:=by
  rcases List.mem_or_eq_of_mem_set a with a|rfl
  .exact h.all y a
  have d:=h.all _ (yd hj);exact⟨d.ts,d.ot⟩
 exact⟨O.ts,RP O.ot f qh⟩
def Iw.al{w w' b base a c L}{j:Nat}{x v ys}(h:Iw w b base a c L)(B:(L.map Prod.snd).Pairwise AL)(hj:L[j]?=some (x,v))(hl:ys.length=x.al.length)(u:Bi v.ownBlock w w')(C:w'.ownsRow base 3 1 v x.al.length (Am ys)):Iw w' b base a c (L.set j (⟨x.au,ys⟩,v)):=by
 have s:=h.all _ (yd hj);have o:j<L.length:=(yf.1 hj).1;refine⟨?_,λy A=>?_⟩
 .have q:w'.ownsRow b 45 2 (.slice a L.length c) L.length (L.flatMap Dk):=BZ h.row (λg f=>u.block g (h.row.lt g f).2 (λe=>by
   obtain⟨_,q⟩:=A8 h.row f;obtain⟨_,D⟩:=A8 s.ot e;exact CB q D qh))
  have e:(L.set j (⟨x.au,ys⟩,v)).flatMap Dk=L.flatMap Dk:=by
   have p:=kw (L:=L) hj x.au;have z:∀(l:List Eh)(j:Nat),l[j]?=some (x,v)->(l.set j (⟨x.au,ys⟩,v)).flatMap Dk=l.flatMap Dk:=by
    intro l
    induction l with
    |nil=>intro j h;simp at h
    |cons y r ih=>
     intro j h;rcases j with _|j
     .simp at h;subst h;rfl
     rw[yw]at h;rw[yG,yE,yE,ih j h]
   exact z L j hj
  rw[e];simpa using q
 obtain⟨i,hi,rfl⟩:=Wt A;have Y:i<L.length:=OX;by_cases n:i=j
 .subst n;simp only[List.getElem_set_self];obtain⟨⟨E,G,p⟩,_⟩:=s;simp only at p;exact⟨⟨E,G,by rw[hl];exact p⟩,by simp only[hl];exact C⟩
 rw[List.getElem_set_ne (K7 n)];have O:=h.all _ (WZ Y);refine⟨O.ts,BZ O.ot (λg f=>u.block g (O.ot.lt g f).2 (λe=>?_))⟩;have t:L[j]=(x,v):=by
  have:=yK o;rw[hj]at this;exact Tf
 have m:=YT.1 B;rcases Nat.lt_or_gt_of_ne n with d|d
 .have k:=m i j qU (by simpa using o) d;simp only[List.getElem_map,t]at k;exact k g f e
 have k:=m j i (by simpa using o) qU d;simp only[List.getElem_map,t]at k;exact k g e f
def Hv(L:List It):List Nat:=L.map (λx=>x.al.length)
def iY{α:Type}{A B j}(a:A.length=j)(x y:α):(A++x::B).set j y=A++[y]++B:=by
 subst a;simp
def Vc{α:Type}{l:List α}{j x}(h:l[j]?=some x):l.set j x=l:=by
 obtain⟨hj,rfl⟩:=yf.1 h;exact List.set_getElem_self hj
structure E7(S:Nat->Prop) (w w':World):Prop where
 rest:Below 0 w w'
 block:∀g,g<w.heap.size->¬S g->w'.heap[g]?=w.heap[g]?
def E7.refl(S w):E7 S w w:=⟨Aj,λ_ _ _=>rfl⟩
def E7.j{S u v w}(h:E7 S u v)(k:E7 S v w):E7 S u w:=
 ⟨h.rest.j k.rest,λg a b=>(k.block g (yh a h.rest.size) b).j (h.block g a b)⟩
def E7.aI{S b w w'}(h:Bi b w w')(d:∀g,b=some g->S g):E7 S w w':=⟨h.J (yA _) (λ_ _=>yA _),λg a c=>h.block g a (λe=>c (d g e))⟩
def E7.set{S w g o}(v)(a:S g):E7 S w (w.setCell ⟨g,o,none⟩ v):=E7.aI (Bi.set v) (λO e=>by injection e with e;rw[<-e];exact a)
def E7.ac{S T w w'}(h:E7 S w w')(c:∀g,S g->T g):E7 T w w':=⟨h.rest,λg a b=>h.block g a (λe=>b (c g e))⟩
def E7.J{S w w' b}(h:E7 S w w')(c:b<=w.heap.size)(d:∀g,S g->b<=g):Below b w w':=⟨h.rest.os,h.rest.tape,h.rest.output,h.rest.size,λg a=>h.block g (yh a c) (λe=>absurd (d g e) qd)⟩
def lm(Y)(aP:0<Y)(aQ:Y<=100000000000)(M a c base w)(h:Iw w base base a c M)(hp:M.Pairwise (λx y=>AL x.2 y.2))(hl:M.length<=1048576)(J:∀n∈Hv (M.map Prod.fst),n<=6) :
  Ca 78 #[.slice a M.length c,I6 Y] w λe w'=>e=.returned (I6 (A5 Y (Hv (M.map Prod.fst))))/\(∃N:List Eh,N.map Prod.snd=M.map Prod.snd/\N.map Prod.fst=Gk Y (Hv (M.map Prod.fst))/\Iw w' base base a c N)/\E7 (Fj (.slice a M.length c) M) w w':=by
 obtain⟨d,t⟩:∃l,l=Hv (M.map Prod.fst):=⟨_,rfl⟩
 rw[<-t]at J⊢;have aC:d.length=M.length:=by rw[t];simp[Hv]
 obtain⟨q,HE⟩:=Ak aC (λj=>lr (N:=6) d Y J j);have av:(M.map Prod.snd).Pairwise AL:=by rw[Y1];exact hp
 obtain⟨HP,H0,aJ⟩:=AQ av h t;clear h hp av t aC;go_enter func78,ntmps78;go_wp2
 go_loopw [1,5] (λkv i wr=>∃(j:Nat)(N:List Eh),j<=M.length/\i=I6 j/\kv=I6 (A5 Y (d.take j))/\N.length=M.length/\N.map Prod.snd=M.map Prod.snd/\N.map Prod.fst=Gk Y (d.take j)++(M.map Prod.fst).drop j/\Iw wr base base a c N/\E7 (Fj (.slice a M.length c) M) w wr) (λ_ i _=>M.length-(intOf i).toNat)
 case atStart=>exact⟨0,M,qd,rfl,rfl,rfl,rfl,by simp[Gk],H0.o,E7.refl _ _⟩
 case round=>
  obtain⟨j,N,hj,rfl,rfl,U,R,W,aw,hb⟩:=hrel;obtain⟨C,u,I,s,HB⟩:=DU U R W aw hb;clear U R W aw hb;by_cases A:j<M.length
  .obtain⟨⟨x,v⟩,O⟩:∃x,N[j]?=some x:=⟨N[j]'(by rw[C.o];exact A),qe⟩
   obtain⟨m,B⟩:∃m,d[j]?=some m:=⟨d[j]'(by rw[q.o];exact A),qe⟩
   obtain⟨y,p⟩:∃y,(M.map Prod.fst)[j]?=some y:=⟨M[j].1,by simp[A]⟩
   have r:(Gk Y (d.take j)).length=j:=by rw[Sw,Yo,q.o];omega
   have aM:x=y:=by
    have b:(N.map Prod.fst)[j]?=some x:=by rw[yx,O];rfl
    rw[I.o,yF qd,r,WA]at b;simp only[W7,YJ]at b;rw[p]at b;injection b with b;exact b.ai
   subst aM;have aO:m=x.al.length:=by
    have b:=B;rw[aJ.o]at b;unfold Hv at b;rw[yx,p]at b;injection b with b;exact b.ai
   subst aO;have aT:=J _ (yd B);obtain⟨g,rfl,aR,aU,c0,D,f0⟩:=s.o.get O;obtain⟨⟨k,f,b⟩,az⟩:=s.o.all _ (yd O);simp only at b az c0 D;subst b;obtain⟨K,G⟩:∃z:Int,z=A5 Y (d.take j):=⟨_,rfl⟩
   have hK:=HE.o j;rw[<-G]at hK⊢;have aV:(d.length:Int)<=1048576:=by rw[q.o];omega
   have aW:0<K/\K<=200000000000:=qd;have aS:IntKind.i64.wrap (K+1)=K+1:=by rw[yS];omega
   have H:=Aa (s.o.au O K);have aN:At (wr.setCell ⟨g,j*2,none⟩ (I6 K)) g (j*2+1) (.slice k x.al.length f):=(WF _ _ _ _ (λe=>by injection e with _ e _;omega)).j D;have hvM:Value.slice k x.al.length f∈M.map Prod.snd:=by rw[<-u.o];exact yz.2 ⟨_,yd O,rfl⟩
   obtain⟨B1,aK⟩:=Ak (HB.o.j (E7.set (S:=Fj (.slice (some ⟨g,0,none⟩) M.length c) M) (w:=wr) (g:=g) (o:=j*2) (I6 K) (.inl rfl))) hvM;clear hvM;obtain⟨L,HM,HY,EK⟩:=BE O B p G;clear O B p G az r;go_upto_region 6 with fail;obtain⟨w1,T⟩:∃v,v=wr.setCell ⟨g,j*2,none⟩ (I6 K):=⟨_,rfl⟩
   rw[<-T]at H B1 aN⊢;clear T c0 D f0;have aB:=Aa (show(N.set j (⟨K,x.al⟩,.slice k x.al.length f))[j]?=some (⟨K,x.al⟩,.slice k x.al.length f) by rw[Yl (by rw[C.o];exact A)]);have am:=(H.o.all _ (yd aB.o)).ot;have aD:=Aa (zl2 k f x.al base (K+1) w1 am qd qd qd);clear am;go_wp2_with fail;refine aD.o.an λw2⟨Z,E⟩=>?_;have ay:=Aa (show(N.set j (⟨K,x.al⟩,.slice k x.al.length f)).map Prod.snd=M.map Prod.snd by rw[W6,<-u.o];exact Vc (by rw[yx,L.o];rfl));have aL:=Aa (H.o.al (by rw[ay.o];exact HP.o) aB.o (by rw[UX]) E Z);have B2:=Aa (B1.o.j (E7.aI E (λg' aH=>by
    obtain⟨y,p,e⟩:=yz.1 aK.o;exact .inr ⟨y,p,by rw[e];exact aH⟩)))
   have HF:=Aa (show(((N.set j (⟨K,x.al⟩,.slice k x.al.length f)).set j (⟨K,CW (K+1) x.al.length⟩,.slice k x.al.length f))).map Prod.fst=Gk Y (d.take (j+1))++(M.map Prod.fst).drop (j+1) by
    rw[K8,W6,I.o,Ck HY.o,iY (by rw[Sw,Yo,q.o];omega),OG HM.o,kf,<-EK.o])
   have aG:=Aa (show K+1+(x.al.length:Int)=A5 Y (d.take (j+1)) by rw[OG HM.o,Vx,<-EK.o]);rw[aG.o];clear Z E aD;go_wp2_with fail;go_roundw
   case rel=>exact⟨j+1,_,qd,ql,rfl,by rw[Kl,Kl];exact C.o,by rw[W6,ay.o];exact Vc (by rw[<-u.o,yx,L.o];rfl),HF.o,aL.o,B2.o⟩
   case measure=>simp[intOf];omega
  have aI:j=M.length:=qd;have HQ:=Aa (show d.take j=d from yu (by rw[q.o];omega));have HA:=Aa (show N.map Prod.fst=Gk Y d by rw[I.o,HQ.o,yD qg,yM]);rw[HQ.o];clear aI;go_wp2;go_ret;exact⟨rfl,⟨N,u.o,HA.o,s.o⟩,HB.o⟩
def mA(O)(U:0<O)(I:O<=100000000000)(d a c w)(hv:Ha w a (Gk O d))(hl:d.length<=1048576)(s:∀n∈d,n<=6) :
  Ca 79 #[.slice a d.length c,I6 O] w λe w'=>e=.returned (I6 (A5 O d))/\Bw w w':=by
 obtain⟨y,D⟩:=Ak (λj=>lr (N:=6) d O s j) hv;clear hv;go_enter func79,ntmps79;go_wp2
 go_loopw [1,5] (λu i wr=>∃(j:Nat),j<=d.length/\i=I6 j/\u=I6 (A5 O (d.take j))/\Bw w wr) (λ_ i _=>d.length-(intOf i).toNat)
 case atStart=>exact⟨0,qd,rfl,rfl,Aj⟩
 case round=>
  obtain⟨j,hj,rfl,rfl,t⟩:=hrel;have k:=Aa t;clear t;by_cases C:j<d.length
  .obtain⟨m,g⟩:=AJ C;have T:=s _ (yd g);obtain⟨b,o,G,v,rfl,r,x,f⟩:=(D.o.J k.o) j _ (vu g);simp only[UX]at r x f;have l:=Aa (show A5 O (d.take j)+1+(m:Int)=A5 O (d.take (j+1)) by rw[OG g,Vx]);obtain⟨K,q⟩:∃z:Int,z=A5 O (d.take j):=⟨_,rfl⟩
   have A:=y.o j;rw[<-q]at A r f l⊢;have M:0<K/\K<=200000000000:=qd;have H:IntKind.i64.wrap (K+1)=K+1:=by rw[yS];omega
   have Y:=Aa (zlk G v m (K+1) wr f qd qd qd);have R:¬K+1+(m:Int)<0:=qd;clear f q g;go_wp2_with fail;refine Y.o.an λL p=>?_;have E:=Aa (k.o.aj p);clear p Y;go_wp2_with fail;rw[l.o];go_roundw
   case rel=>exact⟨j+1,qd,ql,rfl,E.o⟩
   case measure=>simp[intOf];omega
  have B:=Aa (show d.take j=d from yu qd);rw[B.o];go_wp2;go_ret;exact⟨rfl,k.o⟩
def GK:Value->Bool
 |.slice _ _ _=>true
 |_=>false
structure Tr(S:Nat->Prop) (w w':World):Prop where
 rest:Below 0 w w'
 block:∀g,g<w.heap.size->¬S g->w'.heap[g]?=w.heap[g]?
 keep:∀p v,w.cell? p=some v->GK v=true->w'.cell? p=some v
 bare:∀p v,w.cell? p=some v->GK v=false->∃v',w'.cell? p=some v'/\GK v'=false
 free:∀p:Addr,p.block<w.heap.size->w'.frozen? p=w.frozen? p
def Tr.refl(S w):Tr S w w:=⟨Aj,λ_ _ _=>rfl,λ_ _ h _=>h,λ_ v h a=>⟨v,h,a⟩,λ_ _=>rfl⟩
def Tr.j{S a b c}(h:Tr S a b)(k:Tr S b c):Tr S a c:=
 ⟨h.rest.j k.rest,λg f d=>(k.block g (yh f h.rest.size) d).j (h.block g f d),λp v hv d=>k.keep p v (h.keep p v hv d) d,λp v hv d=>by
  obtain⟨l,m,i⟩:=h.bare p v hv d
  exact k.bare p l m i,λp e=>(k.free p (yh e h.rest.size)).j (h.free p e)⟩
def Tr.ab{S a b}(h:Bw a b):Tr S a b:=
 ⟨h.ac (yA _),λg d _=>h.block g d,λp v hv _=>zab h hv,λp v hv e=>⟨v,zab h hv,e⟩,λp c=>by
  have:=h.block p.block c
  simp only[World.frozen?,this]⟩
def Tr.set{S w p v}(f:S p.block)(hv:w.cell? p=some v)(d:GK v=false){u}(hu:GK u=false):Tr S w (w.setCell p u):=by
 refine⟨Aj.setCell (yA _) _,λg _ c=>Yb _ _ _ _ (λe=>c (e▸f)),?_,?_,λq _=>World.frozen?_setCell w p q u⟩
 .intro q x a O;by_cases b:p=q
  .subst b;rw[hv]at a;injection a with a;subst a;rw[d]at O;cases O
  rw[WF w p q u b];exact a
 intro q x a O;by_cases b:p=q
 .subst b;exact⟨u,World.cell?_setCell_same w p u hv,hu⟩
 exact⟨x,by rw[WF w p q u b];exact a,O⟩
def Tr.J{S w w' B}(h:Tr S w w')(b:B<=w.heap.size)(a:∀g,S g->B<=g):Below B w w':=
 ⟨h.rest.os,h.rest.tape,h.rest.output,h.rest.size,λk c=>h.block k qd (λhS=>by have:=a k hS;omega)⟩
def JJ(S:Nat->Prop)(w:World)(b i:Nat):Prop:=S b/\w.frozen? ⟨b,i,none⟩=false/\∃v,w.cell? ⟨b,i,none⟩=some v/\GK v=false
def JJ.tr{S S' w w' b i}(h:JJ S w b i)(c:Tr S' w w'):JJ S w' b i:=by
 obtain⟨f,d,v,a,e⟩:=h;have hl:=yZ w ⟨b,i,none⟩ a;exact⟨f,(c.free _ hl).j d,c.bare _ v a e⟩
def Ec(S:Nat->Prop)(w:World)(a:Option Addr)(n m:Nat):Prop:=∀j,j<n->∃b o,a=some ⟨b,o,none⟩/\∀q,q<m->JJ S w b (o+j*m+q)
def Ec.tr{S S' w w' a n m}(h:Ec S w a n m)(f:Tr S' w w'):Ec S w' a n m:=λj hj=>by
 obtain⟨b,o,e,d⟩:=h j hj;exact⟨b,o,e,λq c=>(d q c).tr f⟩
def Ea(S:Nat->Prop)(w:World)(a:Option Addr)(ns:List Nat)(m p m':Nat):Prop:=
 ∀j n,ns[j]?=some n->∃b o a' c',a=some ⟨b,o,none⟩/\(∀q,q<m->q≠p->JJ S w b (o+j*m+q))/\w.cell? ⟨b,o+j*m+p,none⟩=some (.slice a' n c')/\Ec S w a' n m'
def Ea.tr{S S' w w' a d m p f}(h:Ea S w a d m p f)(c:Tr S' w w'):Ea S w' a d m p f:=λj n hj=>by
 obtain⟨b,o,l,s,e,r,k,i⟩:=h j n hj;exact⟨b,o,l,s,e,λq g t=>(r q g t).tr c,c.keep _ _ k rfl,i.tr c⟩
def XK(h:P:=by
 go_wp2;go_ret;obtain rfl:j=n:=by omega
 exact⟨rfl,hm⟩
 ):=h
def lY(S a n c O w)(l:Ec S w a n 1)(hl:n<=1048576)(y:0<O)(t:O+(n:Int)<=100000000) :
  Ca 30 #[.slice a n c,I6 O] w λe w'=>e=.returned (I6 (O+(n:Int)))/\Tr S w w':=by
 go_enter func30,ntmps30;go_wp2
 go_loopw [1,5] (λk i wr=>∃(j:Nat),j<=n/\i=I6 j/\k=I6 (O+(j:Int))/\Tr S w wr) (λ_ i _=>n-(intOf i).toNat)
 case atStart=>exact⟨0,qd,rfl,qe,Tr.refl _ _⟩
 case round=>
  obtain⟨j,hj,rfl,rfl,hm⟩:=hrel;by_cases q:j<n
  .obtain⟨b,o,f,r⟩:=(l.tr hm) j q;subst f;obtain⟨hS,m,v,d,g⟩:=r 0 qd;simp only[Ko,YJ]at m d;have x:IntKind.i64.wrap (O+(j:Int)+1)=O+((j:Int)+1):=by rw[yS];omega
   have Y:((j+1:Nat):Int)=(j:Int)+1:=qd;have s:=hm.j (Tr.set (p:=⟨b,o+j,none⟩) hS d g (u:=I6 (O+(j:Int))) rfl);clear hm;go_wp2;go_roundw
   case rel=>exact⟨j+1,qd,ql,by rw[Y],s⟩
   case measure=>simp[intOf];omega
  exact XK
end
def IU{S w b o n m j}(h:Ec S w (some ⟨b,o,none⟩) n m)(hj:j<n)(q)(a:q<m)(u)(hu:GK u=false):Tr S w (w.setCell ⟨b,o+j*m+q,none⟩ u):=by
 obtain⟨O,o',e,f⟩:=h j hj;cases e;obtain⟨g,_,v,c,d⟩:=f q a;exact Tr.set g c d hu
def LO{x y d}(h:y=x+1)(a:0<x/\x+((d+1:Nat):Int)<=100000000):IntKind.i64.wrap (x+1)=y/\0<y/\y+((d:Nat):Int)<=100000000:=by
 subst h;refine⟨?_,qd,qd⟩;exact Nc
def QV{x d}(h:0<x/\x+((d:Nat):Int)<=100000000):0<x/\x<=100000000:=⟨h.1,qd⟩
def AZ(c d:Int):Int->List Nat->Int
 |k,[]=>k
 |k,n::r=>AZ c d (k+c+d*(n:Int)) r
def Sn(c d)(n:Nat):∀(l:List Nat)(k:Int),AZ c d k (l++[n])=AZ c d k l+c+d*(n:Int)
 |[],_=>rfl
 |_::r,_=>Sn c d n r _
def SP(c d m):∀(l:List Nat)(k:Int),AZ c d k (l++m)=AZ c d (AZ c d k l) m
 |[],_=>rfl
 |_::r,_=>SP c d m r _
def LV(c d)(a:0<=c)(hd:0<=d):∀(l:List Nat)(k:Int),k<=AZ c d k l
 |[],_=>Wm _
 |n::r,k=>by
  have b:=LV c d a hd r (k+c+d*(n:Int))
  have e:0<=d*(n:Int):=Int.mul_nonneg hd qd
  show k<=AZ c d (k+c+d*(n:Int)) r
  omega
def PZ{S w b o a m p f j n}(h:Ea S w (some ⟨b,o,none⟩) a m p f)(hj:a[j]?=some n)(q)(c:q<m)(k:q≠p)(u)(hu:GK u=false):Tr S w (w.setCell ⟨b,o+j*m+q,none⟩ u):=by
 obtain⟨O,o',r,s,e,d,_⟩:=h j n hj;cases e;obtain⟨l,_,v,g,i⟩:=d q c k;exact Tr.set l g i hu
def nW(c d:Nat)(ns:List Nat):Nat:=(ns.map λn=>c+d*n).sum
def Up(c d:Nat):∀(l:List Nat)(k:Int),AZ (c:Int) (d:Int) k l=k+(nW c d l:Int)
 |[],k=>by simp[AZ,nW]
 |n::r,k=>by
  show AZ (c:Int) (d:Int) (k+c+d*(n:Int)) r=_
  rw[Up c d r]
  simp only[nW,yn,YN]
  rw[Kk,Kk,Int.natCast_mul]
  omega
section
attribute [local go_sem ↓] wp_at_zero wp_at_succ
def OU(h:P:=by(try simp at this);omega):=h
def n9(h:P:=by
 go_roundw
 case rel=>exact⟨j+1,by omega,by go_num,by rw[HE.o,ah],X.o⟩
 case measure=>simp[intOf];omega
 ):=h
def pP(h:P:=by
 first
  | (have _:=tP
     go_enter func139,ntmps139)
  |(go_enter func75,ntmps75)
 go_wp2
 first
  | (have _:=tP
     go_loopw [1,5] (λkv i wr=>∃(j:Nat),j<=n/\i=I6 j/\kv=I6 (k0+6*(j:Int))/\Tr S w wr) (λ_ i _=>n-(intOf i).toNat))
  |(go_loopw [1,5] (λkv i wr=>∃(j:Nat),j<=n/\i=I6 j/\kv=I6 (k0+8*(j:Int))/\Tr S w wr) (λ_ i _=>n-(intOf i).toNat))
 case atStart=>exact⟨0,by omega,rfl,by simp,Tr.refl _ _⟩
 case round=>
  obtain⟨j,hj,rfl,rfl,hm⟩:=hrel;by_cases O:j<n
  .obtain⟨b,o,ea,hc⟩:=(ho.tr hm) j O;subst ea;obtain⟨aG,f0,v0,c0,t0⟩:=hc 0 (by omega);obtain⟨hS1,f1,v1,c1,t1⟩:=hc 1 (by omega);obtain⟨hS2,f2,v2,c2,t2⟩:=hc 2 (by omega);obtain⟨hS3,f3,v3,c3,t3⟩:=hc 3 (by omega);obtain⟨am,f4,v4,c4,t4⟩:=hc 4 (by omega);obtain⟨aq,f5,v5,c5,t5⟩:=hc 5 (by omega)
   first
    |(have _:=tP)
    | (obtain ⟨aH,f6,v6,c6,t6⟩:=hc 6 (by omega)
       obtain⟨au,f7,v7,c7,t7⟩:=hc 7 (by omega))
   simp only[YJ]at f0 c0
   first
    | (have _:=tP
       obtain⟨m0,e0⟩:∃x:Int,x=k0+6*(j:Int):=⟨_,rfl⟩
       have g0:0<m0/\m0+((6:Nat):Int)<=100000000:=by omega)
    | (obtain ⟨m0,e0⟩:∃ x:Int,x=k0+8 * (j:Int):=⟨_,rfl⟩
       have g0:0<m0/\m0+((8:Nat):Int)<=100000000:=by omega)
   rw[<-e0];obtain⟨m1,e1⟩:∃x:Int,x=m0+1:=⟨_,rfl⟩
   obtain⟨aD,g1⟩:=LO e1 g0;obtain⟨m2,e2⟩:∃x:Int,x=m1+1:=⟨_,rfl⟩
   obtain⟨az,g2⟩:=LO e2 g1;obtain⟨m3,e3⟩:∃x:Int,x=m2+1:=⟨_,rfl⟩
   obtain⟨aw,g3⟩:=LO e3 g2;obtain⟨m4,e4⟩:∃x:Int,x=m3+1:=⟨_,rfl⟩
   obtain⟨aB,g4⟩:=LO e4 g3;obtain⟨m5,e5⟩:∃x:Int,x=m4+1:=⟨_,rfl⟩
   obtain⟨ay,g5⟩:=LO e5 g4;obtain⟨m6,e6⟩:∃x:Int,x=m5+1:=⟨_,rfl⟩
   obtain⟨av,g6⟩:=LO e6 g5
   first
    |(have _:=tP)
    | (obtain ⟨m7,e7⟩:∃ x:Int,x=m6+1:=⟨_,rfl⟩
       obtain⟨ao,g7⟩:=LO e7 g6;obtain⟨m8,e8⟩:∃x:Int,x=m7+1:=⟨_,rfl⟩
       obtain⟨ax,g8⟩:=LO e8 g7)
   have b2:=QV g2;have b5:=QV g5
   first
    | (have _:=tP
       have hE:m6=k0+6*((j:Int)+1):=by
         rw[e6,e5,e4,e3,e2,e1,e0];omega)
    |(have hE:m8=k0+8*((j:Int)+1):=by
         rw[e8,e7,e6,e5,e4,e3,e2,e1,e0];omega)
   have HE:=Aa hE;have aF:b<wr.heap.size:=yZ wr ⟨b,_,none⟩ c0;have HM:=Aa hm
   first
    | (have _:=tP
       clear hm hc e0 e1 e2 e3 e4 e5 e6 hE g0 g1 g2 g3 g4 g5 g6)
    |(clear hm hc e0 e1 e2 e3 e4 e5 e6 e7 e8 hE g0 g1 g2 g3 g4 g5 g6 g7 g8)
   go_wp2_with fail;refine(MZ m2 _ b2.1 b2.2).an λw1 Y=>?_;obtain⟨ar,aE⟩:=Ah Y;have aj:b<w1.heap.size:=by
    have:=Y.size;exact OU
   go_wp2_with fail;refine(MZ m5 _ b5.1 b5.2).an λw2 af=>?_;obtain⟨aC,aA⟩:=Ah af;have ak:b<w2.heap.size:=by
    have:=af.size;exact OU
   go_wp2_with fail;have x0:=HM.o;have x1:=x0.j (IU (ho.tr x0) O 0 (by omega) (I6 m0) rfl)
   first
    | (have _:=tP
       have x2:=x1.j (IU (ho.tr x1) O 1 (by omega) (I6 m1) rfl))
    |(have x2:=x1.j (IU (ho.tr x1) O 1 (by omega) (.int .u8 (IntKind.u8.wrap m1)) rfl))
   have x3:=x2.j (Tr.ab Y);have x4:=x3.j (IU (ho.tr x3) O 2 (by omega) (.string (LP m2)) rfl);have x5:=x4.j (IU (ho.tr x4) O 3 (by omega) (I6 m3) rfl);have x6:=x5.j (IU (ho.tr x5) O 4 (by omega) (I6 m4) rfl);have x7:=x6.j (Tr.ab af);have x8:=x7.j (IU (ho.tr x7) O 5 (by omega) (.string (LP m5)) rfl)
   first
    |(have _:=tP)
    | (have x9:=x8.j (IU (ho.tr x8) O 6 (by omega) (I6 m6) rfl)
       have ai:=x9.j (IU (ho.tr x9) O 7 (by omega) (I6 m7) rfl))
   have ah:((j+1:Nat):Int)=(j:Int)+1:=by omega
   first
    | (have _:=tP
       have X:=Aa x8;clear x0 x1 x2 x3 x4 x5 x6 x7 x8)
    | (have X:=Aa ai
       clear x0 x1 x2 x3 x4 x5 x6 x7 x8 x9 ai)
   exact n9
  exact XK
 ):=h
def zlY(S a n c k0 w)(ho:Ec S w a n 6)(hl:n<=1048576)(d:0<k0)(Y:k0+6*(n:Int)<=100000000) :
  Ca 139 #[.slice a n c,I6 k0] w λe w'=>e=.returned (I6 (k0+6*(n:Int)))/\Tr S w w':=by
 have tP:=trivial;exact pP
def zlC(S a n c k0 w)(ho:Ec S w a n 8)(hl:n<=1048576)(d:0<k0)(Y:k0+8*(n:Int)<=100000000) :
  Ca 75 #[.slice a n c,I6 k0] w λe w'=>e=.returned (I6 (k0+8*(n:Int)))/\Tr S w w':=by
 exact pP
def oK(h:P:=by
 go_wp2;go_ret;obtain rfl:j=ns.length:=by omega
 exact⟨by rw[yu AA];rfl,hm⟩
 ):=h
def oD(h:P:=by
 go_wp2_with fail;go_roundw
 case rel=>exact⟨j+1,by omega,by go_num,by rw[HE.o],(HM.o.j X.o).j hz⟩
 case measure=>simp[intOf];omega
 ):=h
def zh7(S a ns c O w)(u:Ea S w a ns 3 2 6)(hl:ns.length<=1048576)(H:∀n∈ns,n<=1048576)(hk:0<O)(au:AZ 2 6 O ns<=100000000) :
  Ca 74 #[.slice a ns.length c,I6 O] w λe w'=>e=.returned (I6 (AZ 2 6 O ns))/\Tr S w w':=by
 go_enter func74,ntmps74;go_wp2
 go_loopw [1,5] (λC i wr=>∃(j:Nat),j<=ns.length/\i=I6 j/\C=I6 (AZ 2 6 O (ns.take j))/\Tr S w wr) (λ_ i _=>ns.length-(intOf i).toNat)
 case atStart=>exact⟨0,qd,rfl,rfl,Tr.refl _ _⟩
 case round=>
  obtain⟨j,hj,rfl,rfl,hm⟩:=hrel;by_cases T:j<ns.length
  .obtain⟨n,Y⟩:=AJ T;obtain⟨b,o,L,R,G,k,D,l⟩:=(u.tr hm) j n Y;subst G;obtain⟨U,J,v0,v,W⟩:=k 0 qd qd;obtain⟨hS1,f1,v1,c1,Z⟩:=k 1 qd qd;simp only[YJ]at J v;have z:ns.take (j+1)=ns.take j++[n]:=GC ns j n Y;have p:AZ 2 6 O (ns.take (j+1))=AZ 2 6 O (ns.take j)+2+6*(n:Int):=by rw[z,Sn]
   have B:=LV 2 6 qd qd (ns.take j) O;have N:AZ 2 6 O (ns.take (j+1))<=AZ 2 6 O ns:=by
    have:=SP 2 6 (ns.drop (j+1)) (ns.take (j+1)) O;rw[Yz]at this;rw[this];exact LV 2 6 qd qd _ _
   have M:=H n (yd Y);obtain⟨K,s⟩:∃x:Int,x=AZ 2 6 O (ns.take j):=⟨_,rfl⟩
   rw[<-s]at p B⊢;obtain⟨m1,g⟩:∃x:Int,x=K+1:=⟨_,rfl⟩
   obtain⟨m2,m⟩:∃x:Int,x=K+2:=⟨_,rfl⟩
   have ax:IntKind.i64.wrap (K+1)=m1:=by rw[g,yS];omega
   have aw:IntKind.i64.wrap (m1+1)=m2:=by rw[g,m,yS]<;>omega
   have r:0<m2/\m2+6*(n:Int)<=100000000:=qd;have t:m2+6*(n:Int)=AZ 2 6 O (ns.take (j+1)):=qd;have y:0<m1/\m1<=100000000:=qd;obtain⟨HE,HM,E⟩:=AQ t hm l;have az:b<wr.heap.size:=yZ wr ⟨b,_,none⟩ v;clear hm k l t p z N s g m;go_wp2_with fail;refine(MZ m1 _ y.1 y.2).an λI d=>?_;obtain⟨av,ay⟩:=Ah d;have ar:b<I.heap.size:=by
    have:=d.size;exact OU
   go_wp2_with fail;have A:=Aa (u.tr HM.o);have x0:=Tr.refl S wr;have x1:=x0.j (PZ (A.o.tr x0) Y 0 qd qd (.bool (K%3==0)) rfl);have f:=x1.j (Tr.ab d);have q:=f.j (PZ (A.o.tr f) Y 1 qd qd (.string (LP m1)) rfl);have X:=Aa q;clear x0 x1 f q;refine(zlY S L n R m2 _ (E.o.tr X.o) M r.1 r.2).an λwz hz=>?_;exact oD
  exact oK
def pO(h:P:=by
 first
  | (have _:=tP
     go_enter func76,ntmps76)
  |(go_enter func31,ntmps31)
 go_wp2
 first
  | (have _:=tP
     go_loopw [1,5] (λkv i wr=>∃(j:Nat),j<=ns.length/\i=I6 j/\kv=I6 (AZ 3 1 O (ns.take j))/\Tr S w wr) (λ_ i _=>ns.length-(intOf i).toNat))
  |(go_loopw [1,5] (λkv i wr=>∃(j:Nat),j<=ns.length/\i=I6 j/\kv=I6 (AZ 3 3 O (ns.take j))/\Tr S w wr) (λ_ i _=>ns.length-(intOf i).toNat))
 case atStart=>exact⟨0,by omega,rfl,rfl,Tr.refl _ _⟩
 case round=>
  obtain⟨j,hj,rfl,rfl,hm⟩:=hrel;by_cases aq:j<ns.length
  .obtain⟨n,Y⟩:=AJ aq;obtain⟨b,o,a',c',ea,hc,hsl,am⟩:=(ho.tr hm) j n Y;subst ea;obtain⟨aA,f0,v0,c0,t0⟩:=hc 0 (by omega) (by omega);obtain⟨hS1,f1,v1,c1,t1⟩:=hc 1 (by omega) (by omega);obtain⟨hS2,f2,v2,c2,t2⟩:=hc 2 (by omega) (by omega);simp only[YJ]at f0 c0;have ht:ns.take (j+1)=ns.take j++[n]:=GC ns j n Y
   first
    | (have _:=tP
       have af:AZ 3 1 O (ns.take (j+1))=AZ 3 1 O (ns.take j)+3+1*(n:Int):=by rw[ht,Sn]
       have ak:=LV 3 1 (by omega) (by omega) (ns.take j) O;have aj:AZ 3 1 O (ns.take (j+1))<=AZ 3 1 O ns:=by
         have:=SP 3 1 (ns.drop (j+1)) (ns.take (j+1)) O;rw[Yz]at this;rw[this];exact LV 3 1 (by omega) (by omega) _ _)
    | (have af:AZ 3 3 O (ns.take (j+1))=AZ 3 3 O (ns.take j)+3+3 * (n:Int):=by rw[ht,Sn]
       have ak:=LV 3 3 (by omega) (by omega) (ns.take j) O;have aj:AZ 3 3 O (ns.take (j+1))<=AZ 3 3 O ns:=by
         have:=SP 3 3 (ns.drop (j+1)) (ns.take (j+1)) O;rw[Yz]at this;rw[this];exact LV 3 3 (by omega) (by omega) _ _)
   have ao:=hs n (yd Y)
   first
    | (have _:=tP
       obtain⟨K,eK⟩:∃x:Int,x=AZ 3 1 O (ns.take j):=⟨_,rfl⟩)
    |(obtain⟨K,eK⟩:∃x:Int,x=AZ 3 3 O (ns.take j):=⟨_,rfl⟩)
   rw[<-eK]at af ak⊢;obtain⟨m1,e1⟩:∃x:Int,x=K+1:=⟨_,rfl⟩
   obtain⟨m2,e2⟩:∃x:Int,x=K+2:=⟨_,rfl⟩
   obtain⟨m3,e3⟩:∃x:Int,x=K+3:=⟨_,rfl⟩
   have ax:IntKind.i64.wrap (K+1)=m1:=by rw[e1,yS];omega
   have aw:IntKind.i64.wrap (m1+1)=m2:=by rw[e1,e2,yS]<;>omega
   have av:IntKind.i64.wrap (m2+1)=m3:=by rw[e2,e3,yS]<;>omega
   first
    | (have _:=tP
       have bl:0<m3/\m3+(n:Int)<=100000000:=by omega
       have ai:m3+(n:Int)=AZ 3 1 O (ns.take (j+1)):=by omega
       have b2:0<m2/\m2<=100000000:=by omega)
    | (have bl:0<m3/\m3+3 * (n:Int)<=100000000:=by omega
       have ai:m3+3*(n:Int)=AZ 3 3 O (ns.take (j+1)):=by omega
       have b1:0<m2/\m2<=100000000:=by omega)
   obtain⟨HE,HM,HF⟩:=AQ ai hm am;have az:b<wr.heap.size:=yZ wr ⟨b,_,none⟩ c0;clear hm hc am ai af ht aj eK e1 e2 e3;go_wp2_with fail
   first
    | (have _:=tP
       refine(MZ m2 _ b2.1 b2.2).ac ?_)
    |(refine(MZ m2 _ b1.1 b1.2).ac ?_)
   rintro e w1 ⟨rfl,ah⟩;obtain⟨au,ay⟩:=Ah ah;have ar:b<w1.heap.size:=by
    have:=ah.size;exact OU
   go_wp2_with fail;have NW:=Aa (ho.tr HM.o);have x0:=Tr.refl S wr;have x1:=x0.j (PZ (NW.o.tr x0) Y 0 (by omega) (by omega) (I6 K) rfl);have x2:=x1.j (PZ (NW.o.tr x1) Y 1 (by omega) (by omega) (I6 m1) rfl);have x3:=x2.j (Tr.ab ah);have x4:=x3.j (PZ (NW.o.tr x3) Y 2 (by omega) (by omega) (.string (LP m2)) rfl);have X:=Aa x4;clear x0 x1 x2 x3 x4
   first
    | (have _:=tP
       refine(lY S a' n c' m3 _ (HF.o.tr X.o) ao bl.1 bl.2).ac ?_)
    |(refine(zjN S a' n c' m3 _ (HF.o.tr X.o) ao bl.1 bl.2).ac ?_)
   rintro e wz ⟨rfl,hz⟩;exact oD
  exact oK
 ):=h
def zik(S a ns c O w)(ho:Ea S w a ns 4 3 1)(hl:ns.length<=1048576)(hs:∀n∈ns,n<=1048576)(d:0<O)(Y:AZ 3 1 O ns<=100000000) :
  Ca 76 #[.slice a ns.length c,I6 O] w λe w'=>e=.returned (I6 (AZ 3 1 O ns))/\Tr S w w':=by
 have tP:=trivial;exact pO
def zjN(S a n c O w)(d:Ec S w a n 3)(hl:n<=1048576)(G:0<O)(R:O+3*(n:Int)<=100000000) :
  Ca 77 #[.slice a n c,I6 O] w λe w'=>e=.returned (I6 (O+3*(n:Int)))/\Tr S w w':=by
 go_enter func77,ntmps77;go_wp2
 go_loopw [1,5] (λu i wr=>∃(j:Nat),j<=n/\i=I6 j/\u=I6 (O+3*(j:Int))/\Tr S w wr) (λ_ i _=>n-(intOf i).toNat)
 case atStart=>exact⟨0,qd,rfl,qe,Tr.refl _ _⟩
 case round=>
  obtain⟨j,hj,rfl,rfl,hm⟩:=hrel;by_cases Y:j<n
  .obtain⟨b,o,v,f⟩:=(d.tr hm) j Y;subst v;obtain⟨U,z,M,s,D⟩:=f 0 qd;obtain⟨hS1,K,v1,H,E⟩:=f 1 qd;obtain⟨hS2,T,v2,W,t2⟩:=f 2 qd;simp only[YJ]at z s;obtain⟨m1,p⟩:∃x:Int,x=O+3*(j:Int)+1:=⟨_,rfl⟩
   obtain⟨m2,g⟩:∃x:Int,x=O+3*(j:Int)+2:=⟨_,rfl⟩
   obtain⟨m3,m⟩:∃x:Int,x=O+3*((j:Int)+1):=⟨_,rfl⟩
   have B:IntKind.i64.wrap (O+3*(j:Int)+1)=m1:=by rw[p,yS];omega
   have I:IntKind.i64.wrap (m1+1)=m2:=by rw[p,g,yS]<;>omega
   have Z:IntKind.i64.wrap (m2+1)=m3:=by rw[g,m,yS]<;>omega
   have q:0<m2/\m2<=100000000:=qd;have HE:=Aa m;have N:b<wr.heap.size:=yZ wr ⟨b,_,none⟩ s;have A:=Aa hm;clear hm f p g m;go_wp2_with fail;refine(MZ m2 _ q.1 q.2).an λy k=>?_;obtain⟨J,C⟩:=Ah k;have L:b<y.heap.size:=by
    have:=k.size;exact OU
   go_wp2_with fail;have x0:=A.o;have x1:=x0.j (IU (d.tr x0) Y 0 qd (I6 (O+3*(j:Int))) rfl);have r:=x1.j (IU (d.tr x1) Y 1 qd (I6 m1) rfl);have l:=r.j (Tr.ab k);have t:=l.j (IU (d.tr l) Y 2 qd (.string (LP m2)) rfl);have ah:((j+1:Nat):Int)=(j:Int)+1:=qd;have X:=Aa t;clear x0 x1 r l t;exact n9
  exact XK
end
def H7(B H:Nat)(g:Nat):Prop:=B<=g/\g<H
def gp{w:World}{b i c t}(h:w.heap[b]?=some (.cells c t (0,0))):w.frozen? ⟨b,i,none⟩=false:=by simp[World.frozen?,h]
def Bf.flat{B H w a xs}(h:Bf (some B) w a xs)(g:w.heap.size<=H):Ec (H7 B H) w a xs.length 1:=by
 intro j hj;obtain⟨x,f⟩:=AJ hj;obtain⟨b,o,e,c,d⟩:=h.get f;obtain⟨O,cs,k⟩:=c B rfl;have i:H7 B H b:=⟨O,yh (yZ w ⟨b,_,none⟩ d) g⟩
 refine⟨b,o,e,λq c=>?_⟩;obtain rfl:q=0:=qd;exact⟨i,gp k,_,by simpa using d,rfl⟩
def f8{c d}(a:c<=6)(hd:d<=6):∀(l:List Nat)(k:Int),AZ c d k l<=k+6*((l.length:Int)+(l.sum:Int))
 |[],k=>by simp[AZ]
 |n::r,k=>by
  have b:=f8 a hd r (k+c+d*(n:Int))
  have e:d*(n:Int)<=6*(n:Int):=Int.mul_le_mul_of_nonneg_right hd qd
  show AZ c d (k+c+d*(n:Int)) r<=_
  simp only[yH,YN,Kk]
  omega
def kN{α:Type}{f g:α->Nat}(h:∀x,f x<=g x):∀l:List α,(l.map f).sum<=(l.map g).sum
 |[]=>yX _
 |x::r=>by
  have:=kN h r
  have:=h x
  simp only[yn,YN]
  omega
section
attribute [local go_sem ↓] wp_at_zero wp_at_succ
abbrev RS:=List Nat × Nat × List Nat
def rW(x:RS):Nat:=2+nW 2 6 x.1+8*x.2.1+nW 3 1 x.2.2
def Q6(x:RS):Prop:=x.1.length<=1048576/\(∀n∈x.1,n<=1048576)/\x.2.1<=1048576/\x.2.2.length<=1048576/\∀n∈x.2.2,n<=1048576
def rsW(rs:List RS):Nat:=(rs.map rW).sum
def GN(S:Nat->Prop)(w:World)(a:Option Addr)(rs:List RS):Prop:=
 ∀j x,rs[j]?=some x->∃b o a1 c1 a2 c2 a3 c3,a=some ⟨b,o,none⟩/\JJ S w b (o+j*5)/\JJ S w b (o+j*5+1)/\w.cell? ⟨b,o+j*5+2,none⟩=some (.slice a1 x.1.length c1)/\w.cell? ⟨b,o+j*5+3,none⟩=some (.slice a2 x.2.1 c2)/\w.cell? ⟨b,o+j*5+4,none⟩=some (.slice a3 x.2.2.length c3)/\Ea S w a1 x.1 3 2 6/\Ec S w a2 x.2.1 8/\Ea S w a3 x.2.2 4 3 1
def GN.tr{S S' w w' a rs}(h:GN S w a rs)(c:Tr S' w w'):GN S w' a rs:=λj x hj=>by
 obtain⟨b,o,m,p,l,t,r,f,e,O,s,g,d,i,k,n,q⟩:=h j x hj;exact⟨b,o,m,p,l,t,r,f,e,O.tr c,s.tr c,c.keep _ _ g rfl,c.keep _ _ d rfl,c.keep _ _ i rfl,k.tr c,n.tr c,q.tr c⟩
def vA{rs:List RS}{j x}(h:rs[j]?=some x):rsW (rs.take (j+1))=rsW (rs.take j)+rW x:=Ma rW rs j x h
def rh(rs j):rsW (rs.take j)<=rsW rs:=by
 have h:rsW (rs.take j)+rsW (rs.drop j)=rsW rs:=by
  unfold rsW;rw[<-Kj,<-yJ,Yz]
 omega
def zkX(S a rs c O w)(ho:GN S w a rs)(hl:rs.length<=1048576)(hs:∀x∈rs,Q6 x)(hk:0<O)(aB:O+(rsW rs:Int)<=100000000) :
  Ca 29 #[.slice a rs.length c,I6 O] w λe w'=>e=.returned (I6 (O+(rsW rs:Int)))/\Tr S w w':=by
 go_enter func29,ntmps29;go_wp2
 go_loopw [1,5] (λZ i wr=>∃(j:Nat),j<=rs.length/\i=I6 j/\Z=I6 (O+(rsW (rs.take j):Int))/\Tr S w wr) (λ_ i _=>rs.length-(intOf i).toNat)
 case atStart=>exact⟨0,qd,rfl,by simp[rsW],Tr.refl _ _⟩
 case round=>
  obtain⟨j,hj,rfl,rfl,g⟩:=hrel;by_cases aw:j<rs.length
  .obtain⟨x,l⟩:=AJ aw;obtain⟨b,o,C,c1,B,c2,T,c3,ea,au,v,s2,s3,s4,s,J,L⟩:=(ho.tr g) j x l;subst ea;obtain⟨M,f0,v0,I,t0⟩:=au;obtain⟨hS1,f1,v1,d1,t1⟩:=v;have ar:=vA l;have av:=rh rs (j+1);have hx:=hs x (yd l);have ay:rW x=2+nW 2 6 x.1+8*x.2.1+nW 3 1 x.2.2:=rfl;obtain⟨l1,U,l2,l3,t⟩:=hx;obtain⟨M1,M3⟩:=Ak U t;clear U t;obtain⟨K,D⟩:∃z:Int,z=O+(rsW (rs.take j):Int):=⟨_,rfl⟩
   rw[<-D];obtain⟨m1,n⟩:∃z:Int,z=K+1:=⟨_,rfl⟩
   obtain⟨m2,y⟩:∃z:Int,z=m1+1:=⟨_,rfl⟩
   have aD:IntKind.i64.wrap (K+1)=m1:=by rw[n,yS];omega
   have aC:IntKind.i64.wrap (m1+1)=m2:=by rw[y,n,yS]<;>omega
   have E:0<K/\K<=100000000:=qd;have G:Hid (AZ 2 6 m2 x.1=m2+(nW 2 6 x.1:Int)):=Up 2 6 x.1 m2;obtain⟨q,r⟩:∃z:Int,z=m2+(nW 2 6 x.1:Int):=⟨_,rfl⟩
   obtain⟨d,H⟩:∃z:Int,z=q+8*(x.2.1:Int):=⟨_,rfl⟩
   have N:Hid (AZ 3 1 d x.2.2=d+(nW 3 1 x.2.2:Int)):=Up 3 1 x.2.2 d;obtain⟨P1,P2,P3⟩:=AQ (λw'(h:Ea S w' C x.1 3 2 6)=>zh7 S C x.1 c1 m2 w' h qd M1.o qd (by rw[G.o];omega)) (λw'(h:Ec S w' B x.2.1 8)=>zlC S B x.2.1 c2 q w' h qd qd qd) (λw'(h:Ea S w' T x.2.2 4 3 1)=>zik S T x.2.2 c3 d w' h qd M3.o qd (by rw[N.o];omega));have R:d+(nW 3 1 x.2.2:Int)=O+(rsW (rs.take (j+1)):Int):=qd;obtain⟨HE,HM,N1,W,N3,Q1,Q2⟩:=H5 R g s J L r H;have aG:b<wr.heap.size:=yZ wr ⟨b,_,none⟩ I;clear g s J L R ar av D n y r H ay;go_wp2_with fail;refine(MZ K _ E.1 E.2).an λw1 Y=>?_;obtain⟨v,aE⟩:=Ah Y;have az:b<w1.heap.size:=by
    have:=Y.size;exact OU
   go_wp2_with fail;have x1:=Tr.ab (S:=S) Y;obtain⟨_,_,u0,z0,y0⟩:=JJ.tr (S':=S) (⟨M,f0,v0,I,t0⟩:JJ S wr b (o+j*5)) x1;have m:=x1.j (Tr.set (p:=⟨b,o+j*5,none⟩) M z0 y0 (u:=.string (LP K)) rfl);obtain⟨_,_,u1,z1,y1⟩:=JJ.tr (S':=S) (⟨hS1,f1,v1,d1,t1⟩:JJ S wr b (o+j*5+1)) m;have A:=m.j (Tr.set (p:=⟨b,o+j*5+1,none⟩) hS1 z1 y1 (u:=I6 m1) rfl);have X:=Aa A;clear x1 m A;refine(P1.o _ (N1.o.tr X.o)).an λw2 f=>?_;rw[show AZ 2 6 m2 x.1=q from by rw[G.o,Q1.o]];have aF:=(X.o.j f).keep _ _ s3 rfl;have ax:=(X.o.j f).keep _ _ s4 rfl;go_wp2_with fail;refine(P2.o _ (W.o.tr (X.o.j f))).an λw3 k=>?_;rw[<-Q2.o];have aA:=k.keep _ _ ax rfl;go_wp2_with fail;refine(P3.o _ (N3.o.tr ((X.o.j f).j k))).an λw4 h4=>?_;rw[show AZ 3 1 d x.2.2=O+(rsW (rs.take (j+1)):Int) from by rw[N.o,HE.o]];go_wp2_with fail;go_roundw
   case rel=>exact⟨j+1,qd,ql,rfl,(((HM.o.j X.o).j f).j k).j h4⟩
   case measure=>simp[intOf];omega
  go_wp2;go_ret;obtain rfl:j=rs.length:=qd;exact⟨by rw[yu AA];rfl,g⟩
end
def Ph{B H w b i t v}(a:Qb (some B) w t b)(c:At w b i v)(e:w.heap.size<=H):H7 B H b/\∀k,w.frozen? ⟨b,k,none⟩=false:=by
 obtain⟨O,cs,d⟩:=a B rfl;exact⟨⟨O,yh (yZ w ⟨b,_,none⟩ c) e⟩,λk=>gp d⟩
def CJ.flat{B H w a xs}(h:CJ (some B) w a xs)(k:w.heap.size<=H):Ec (H7 B H) w a xs.length 6:=by
 intro j hj;obtain⟨x,i⟩:=AJ hj;obtain⟨b,o,e,f,g,m,n,l,O,Y⟩:=h.get i;obtain⟨c,d⟩:=Ph f g k;refine⟨b,o,e,λq f=>?_⟩;have:q=0∨q=1∨q=2∨q=3∨q=4∨q=5:=qd;rcases this with rfl|rfl|rfl|rfl|rfl|rfl
 .exact⟨c,d _,_,g,rfl⟩
 .exact⟨c,d _,_,m,rfl⟩
 .exact⟨c,d _,_,n,rfl⟩
 .exact⟨c,d _,_,l,rfl⟩
 .exact⟨c,d _,_,O,rfl⟩
 exact⟨c,d _,_,Y,rfl⟩
def BP.flat{B H w a xs}(h:BP (some B) w a xs)(l:w.heap.size<=H):Ec (H7 B H) w a xs.length 8:=by
 intro j hj;obtain⟨x,k⟩:=AJ hj;obtain⟨b,o,e,f,g,p,r,n,Y,m,i,O⟩:=h.get k;obtain⟨c,d⟩:=Ph f g l;refine⟨b,o,e,λq f=>?_⟩;have:q=0∨q=1∨q=2∨q=3∨q=4∨q=5∨q=6∨q=7:=qd;rcases this with rfl|rfl|rfl|rfl|rfl|rfl|rfl|rfl
 .exact⟨c,d _,_,g,rfl⟩
 .exact⟨c,d _,_,p,rfl⟩
 .exact⟨c,d _,_,r,rfl⟩
 .exact⟨c,d _,_,n,rfl⟩
 .exact⟨c,d _,_,Y,rfl⟩
 .exact⟨c,d _,_,m,rfl⟩
 .exact⟨c,d _,_,i,rfl⟩
 exact⟨c,d _,_,O,rfl⟩
def CH.nest{B H w a xs}(h:CH (some B) w a xs)(f:w.heap.size<=H):Ea (H7 B H) w a (xs.map λp=>p.aa.length) 3 2 6:=by
 intro j n hj;rw[yx,Ya]at hj;obtain⟨x,k,rfl⟩:=hj;obtain⟨b,o,m,s,e,c,g,l,r,t⟩:=h.get k;obtain⟨d,i⟩:=Ph c g f;refine⟨b,o,m,s,e,λq c u=>?_,r,CJ.flat t f⟩;have:q=0∨q=1:=qd;rcases this with rfl|rfl
 .exact⟨d,i _,_,g,rfl⟩
 exact⟨d,i _,_,l,rfl⟩
def C9.nest{B H w a xs}(h:C9 (some B) w a xs)(g:w.heap.size<=H):Ea (H7 B H) w a (xs.map λp=>p.args.length) 4 3 1:=by
 intro j n hj;rw[yx,Ya]at hj;obtain⟨x,k,rfl⟩:=hj;obtain⟨b,o,r,t,e,f,i,m,s,l,u⟩:=h.get k;obtain⟨c,d⟩:=Ph f i g;refine⟨b,o,r,t,e,λq f v=>?_,l,Bf.flat u g⟩;have:q=0∨q=1∨q=2:=qd;rcases this with rfl|rfl|rfl
 .exact⟨c,d _,_,i,rfl⟩
 .exact⟨c,d _,_,m,rfl⟩
 exact⟨c,d _,_,s,rfl⟩
def EI(r:Ru):RS:=(r.af.map λp=>p.aa.length,r.exprs.length,r.ao.map λp=>p.args.length)
def Do.nest{B H w a xs}(h:Do (some B) w a xs)(c:w.heap.size<=H):GN (H7 B H) w a (xs.map EI):=by
 intro j n hj;rw[yx,Ya]at hj;obtain⟨x,m,rfl⟩:=hj;obtain⟨b,o,r,t,p,y,u,q,e,k,f,i,s,v,O,z,l,Y,_⟩:=h.get m;obtain⟨d,g⟩:=Ph k f c;exact⟨b,o,r,t,p,y,u,q,e,⟨d,g _,_,f,rfl⟩,⟨d,g _,_,i,rfl⟩,by rw[s];simp[EI],v,by rw[O];simp[EI],CH.nest z c,BP.flat l c,C9.nest Y c⟩
def gF:∀(l:List Pt),nW 2 6 (l.map λp=>p.aa.length)<=8*EY Pt.sz l
 |[]=>yA _
 |p::r=>by
  have h:=gF r
  have a:p.aa.length<=p.sz:=by unfold Pt.sz EY;omega
  simp only[nW,EY,yn,YN,yH]at *
  omega
def fX:∀(l:List Ac),nW 3 1 (l.map λp=>p.args.length)<=8*EY Ac.sz l
 |[]=>yA _
 |p::r=>by
  have h:=fX r
  have a:p.args.length<=p.sz:=by unfold Ac.sz;omega
  simp only[nW,EY,yn,YN,yH]at *
  omega
def rA(r):rW (EI r)<=2+8*r.sz:=by
 have b:=gF r.af;have c:=fX r.ao;have a:r.exprs.length<=EY Ex.sz r.exprs:=by unfold EY;omega
 unfold rW EI Ru.sz;simp only;omega
def fQ:∀(l:List Ru),rsW (l.map EI)<=8*EY Ru.sz l
 |[]=>yA _
 |r::s=>by
  have h:=fQ s
  have a:=rA r
  simp only[rsW,EY,yn,YN,yH]at *
  omega
def pg{l}(h:CP Ru.le 1048576 l){x}(e:x∈l.map EI):Q6 x:=by
 obtain⟨r,c,rfl⟩:=yz.1 e;obtain⟨_,b,d,Y⟩:=h.2 r c;refine⟨by simpa[EI] using b.1,λn a=>?_,d.1,by simpa[EI] using Y.1,λn a=>?_⟩
 .obtain⟨p,O,rfl⟩:=yz.1 a;exact(b.2 p O).2.1
 obtain⟨p,O,rfl⟩:=yz.1 a;exact(Y.2 p O).2
def wk(a c)(xs:List Int)(left w)(hl:xs.length<=maxLen)(O:0<=left)(b:left<=1048576) :
  Ca 241 #[.slice a xs.length c,I6 left] w λe w'=>
   (∃r:Int,e=.returned (I6 r)/\Left r left xs.length)/\Bw w w':=by
 unfold maxLen at hl;go_enter func241,ntmps241;go_wp2
 all_goals go_ret
 .exact⟨⟨-1,rfl,.inl rfl⟩,Aj⟩
 exact⟨⟨_,rfl,.inr ⟨qj,qd⟩⟩,Aj⟩
def zo9(x:Tm)(left w)(d:x.le maxLen)(n:0<=left)(p:left<=1048576) :
  Ca 270 #[.agg #[I6 x.kind,I6 x.op,.string x.var,I6 x.val.kind,I6 x.val.num,.string x.val.av],I6 left] w λe w'=>
   (∃r:Int,e=.returned (I6 r)/\Left r left x.sz)/\Bw w w':=by
 obtain⟨O,k⟩:=d;have Y:=O;unfold maxLen at Y;go_enter func270,ntmps270;go_wp2_with (go_at_call 183;refine(VX x.val _ _ k qd qd).ac ?_;rintro e f ⟨⟨r1,rfl,ah⟩,c⟩;have u1:r1<=1048576:=Zj;have b:Bw w f:=Af.aj c)
 all_goals go_ret
 all_goals first
  |exact⟨⟨-1,rfl,.inl rfl⟩,b⟩
  |exact⟨⟨-1,rfl,.inl rfl⟩,Af⟩
  |(refine⟨⟨_,rfl,.inr ⟨qj,?_⟩⟩,b⟩;unfold Tm.sz;rcases ah with m|⟨_,m⟩<;>omega)
def XW(h:P:=by go_wp2;go_ret;refine⟨⟨r,rfl,.inr ⟨ai,?_⟩⟩,hb⟩;rw[yu (by omega)]at Y;unfold EY;omega):=h
def X2(h:P:=by
 go_roundw
 case rel=>
  refine⟨k+1,r',by omega,by go_num,rfl,by assumption,?_,hb.aj hb'⟩;rw[HZ.o];rcases af with h|⟨_,h⟩<;>omega
 case measure=>simp[intOf];omega
 ):=h
def zns(a c xs left w){q}(hv:CJ q w a xs)(d:CP Tm.le maxLen xs)(v:0<=left)(z:left<=1048576) :
  Ca 240 #[.slice a xs.length c,I6 left] w λe w'=>
   (∃r:Int,e=.returned (I6 r)/\Left r left (EY Tm.sz xs))/\Bw w w':=by
 obtain⟨hl,d⟩:=d;unfold maxLen at hl;by_cases j:left<xs.length
 .go_enter func240,ntmps240;exact Ng
 go_enter func240,ntmps240;go_wp2
 go_loopw [1,5] (λl i wr=>∃(k:Nat)(r:Int),k<=xs.length/\i=I6 k/\l=I6 r/\0<=r/\r+xs.length+((xs.take k).map Tm.sz).sum<=left/\Bw w wr) (λ_ i _=>xs.length-(intOf i).toNat)
 case atStart=>exact⟨0,_,qd,rfl,rfl,qd,qe,Aj⟩
 case round=>
  obtain⟨k,r,s,rfl,rfl,ai,Y,hb⟩:=hrel;by_cases g:k<xs.length
  .obtain⟨x,O⟩:=AJ g;obtain⟨b,o,rfl,m,u,t,A,n,y,p⟩:=(hv.J hb).get O;have f:=Ma Tm.sz xs k x O;have HZ:Hid (((xs.take (k+1)).map Tm.sz).sum=((xs.take k).map Tm.sz).sum+Tm.sz x):=f;have aj:=d x (yd O);clear f;go_wp2_with (go_at_call 270;refine(zo9 x _ _ aj qd qd).ac ?_;rintro e w' ⟨⟨r',rfl,af⟩,hb'⟩)
   .exact Nf
   exact X2
  exact XW
def zju(x:Pt)(b c){q}(left w)(Y:CJ q w b x.aa)(k:x.le maxLen)(u:0<=left)(v:left<=1048576) :
  Ca 180 #[.agg #[.bool x.neg,.string x.ak,.slice b x.aa.length c],I6 left] w λe w'=>
   (∃r:Int,e=.returned (I6 r)/\Left r left x.sz)/\Bw w w':=by
 obtain⟨p,O⟩:=k;have n:=p;unfold maxLen at n;go_enter func180,ntmps180;go_wp2_with (go_at_call 240;refine(zns b c x.aa _ _ (Y.J Af) O qd qd).ac ?_;rintro e m ⟨⟨r1,rfl,f⟩,s⟩;have u1:r1<=1048576:=(by rcases f with g|⟨_,g⟩<;>omega);have d:Bw w m:=Af.aj s)
 all_goals go_ret
 all_goals first
  |exact⟨⟨-1,rfl,.inl rfl⟩,d⟩
  |exact⟨⟨-1,rfl,.inl rfl⟩,Af⟩
  |(refine⟨⟨_,rfl,.inr ⟨qj,?_⟩⟩,d⟩;unfold Pt.sz;rcases f with t|⟨_,t⟩<;>omega)
def ziy(a c xs left w){q}(hv:CH q w a xs)(g:CP Pt.le maxLen xs)(z:0<=left)(A:left<=1048576) :
  Ca 126 #[.slice a xs.length c,I6 left] w λe w'=>
   (∃r:Int,e=.returned (I6 r)/\Left r left (EY Pt.sz xs))/\Bw w w':=by
 obtain⟨hl,g⟩:=g;unfold maxLen at hl;by_cases n:left<xs.length
 .go_enter func126,ntmps126;exact Ng
 go_enter func126,ntmps126;go_wp2
 go_loopw [1,5] (λl i wr=>∃(k:Nat)(r:Int),k<=xs.length/\i=I6 k/\l=I6 r/\0<=r/\r+xs.length+((xs.take k).map Pt.sz).sum<=left/\Bw w wr) (λ_ i _=>xs.length-(intOf i).toNat)
 case atStart=>exact⟨0,_,qd,rfl,rfl,qd,qe,Aj⟩
 case round=>
  obtain⟨k,r,u,rfl,rfl,aj,m,hb⟩:=hrel;by_cases p:k<xs.length
  .obtain⟨x,Y⟩:=AJ p;obtain⟨b,o,f,d,rfl,t,y,v,B,O⟩:=(hv.J hb).get Y;have j:=Ma Pt.sz xs k x Y;have HZ:Hid (((xs.take (k+1)).map Pt.sz).sum=((xs.take k).map Pt.sz).sum+Pt.sz x):=j;have s:=g x (yd Y);clear j;go_wp2_with (go_at_call 180;refine(zju x f d _ _ O s qd qd).ac ?_;rintro e w' ⟨⟨r',rfl,ah⟩,hb'⟩)
   .exact Nf
   exact X3
  go_wp2;go_ret;refine⟨⟨r,rfl,.inr ⟨aj,?_⟩⟩,hb⟩;rw[yu qd]at m;unfold EY;omega
def wI(x:Ex)(left w)(f:x.le maxLen)(p:0<=left)(q:left<=1048576) :
  Ca 181 #[.agg #[I6 x.kind,.int .u8 x.op,.string x.var,I6 x.val.kind,I6 x.val.num,.string x.val.av,I6 x.a,I6 x.b],I6 left] w λe w'=>
   (∃r:Int,e=.returned (I6 r)/\Left r left x.sz)/\Bw w w':=by
 obtain⟨O,m⟩:=f;have Y:=O;unfold maxLen at Y;go_enter func181,ntmps181;go_wp2_with (go_at_call 183;refine(VX x.val _ _ m qd qd).ac ?_;rintro e k ⟨⟨r1,rfl,ah⟩,d⟩;have u1:r1<=1048576:=Zj;have c:Bw w k:=Af.aj d)
 all_goals go_ret
 all_goals first
  |exact⟨⟨-1,rfl,.inl rfl⟩,c⟩
  |exact⟨⟨-1,rfl,.inl rfl⟩,Af⟩
  |(refine⟨⟨_,rfl,.inr ⟨qj,?_⟩⟩,c⟩;unfold Ex.sz;rcases ah with n|⟨_,n⟩<;>omega)
def zmW(a c xs left w){q}(hv:BP q w a xs)(d:CP Ex.le maxLen xs)(y:0<=left)(B:left<=1048576) :
  Ca 127 #[.slice a xs.length c,I6 left] w λe w'=>
   (∃r:Int,e=.returned (I6 r)/\Left r left (EY Ex.sz xs))/\Bw w w':=by
 obtain⟨hl,d⟩:=d;unfold maxLen at hl;by_cases j:left<xs.length
 .go_enter func127,ntmps127;exact Ng
 go_enter func127,ntmps127;go_wp2
 go_loopw [1,5] (λl i wr=>∃(k:Nat)(r:Int),k<=xs.length/\i=I6 k/\l=I6 r/\0<=r/\r+xs.length+((xs.take k).map Ex.sz).sum<=left/\Bw w wr) (λ_ i _=>xs.length-(intOf i).toNat)
 case atStart=>exact⟨0,_,qd,rfl,rfl,qd,qe,Aj⟩
 case round=>
  obtain⟨k,r,t,rfl,rfl,ai,Y,hb⟩:=hrel;by_cases g:k<xs.length
  .obtain⟨x,O⟩:=AJ g;obtain⟨b,o,rfl,m,v,u,C,n,z,p,s,A⟩:=(hv.J hb).get O;have f:=Ma Ex.sz xs k x O;have HZ:Hid (((xs.take (k+1)).map Ex.sz).sum=((xs.take k).map Ex.sz).sum+Ex.sz x):=f;have aj:=d x (yd O);clear f;go_wp2_with (go_at_call 181;refine(wI x _ _ aj qd qd).ac ?_;rintro e w' ⟨⟨r',rfl,af⟩,hb'⟩)
   .exact Nf
   exact X2
  exact XW
def zli(x:Ac)(c b left w)(m:x.le maxLen)(s:0<=left)(t:left<=1048576) :
  Ca 182 #[.agg #[I6 x.kind,I6 x.k,.string x.ak,.slice c x.args.length b],I6 left] w λe w'=>
   (∃r:Int,e=.returned (I6 r)/\Left r left x.sz)/\Bw w w':=by
 obtain⟨Y,O⟩:=m;have p:=Y;unfold maxLen at p;go_enter func182,ntmps182;go_wp2_with (go_at_call 241;refine(wk c b x.args _ _ O qd qd).ac ?_;rintro e n ⟨⟨r1,rfl,ah⟩,f⟩;have u1:r1<=1048576:=Zj;have d:Bw w n:=Af.aj f)
 all_goals go_ret
 all_goals first
  |exact⟨⟨-1,rfl,.inl rfl⟩,d⟩
  |exact⟨⟨-1,rfl,.inl rfl⟩,Af⟩
  |(refine⟨⟨_,rfl,.inr ⟨qj,?_⟩⟩,d⟩;unfold Ac.sz;rcases ah with q|⟨_,q⟩<;>omega)
def zkx(a c xs left w){q}(hv:C9 q w a xs)(j:CP Ac.le maxLen xs)(z:0<=left)(A:left<=1048576) :
  Ca 128 #[.slice a xs.length c,I6 left] w λe w'=>
   (∃r:Int,e=.returned (I6 r)/\Left r left (EY Ac.sz xs))/\Bw w w':=by
 obtain⟨hl,j⟩:=j;unfold maxLen at hl;by_cases p:left<xs.length
 .go_enter func128,ntmps128;exact Ng
 go_enter func128,ntmps128;go_wp2
 go_loopw [1,5] (λl i wr=>∃(k:Nat)(r:Int),k<=xs.length/\i=I6 k/\l=I6 r/\0<=r/\r+xs.length+((xs.take k).map Ac.sz).sum<=left/\Bw w wr) (λ_ i _=>xs.length-(intOf i).toNat)
 case atStart=>exact⟨0,_,qd,rfl,rfl,qd,qe,Aj⟩
 case round=>
  obtain⟨k,r,u,rfl,rfl,ai,Y,hb⟩:=hrel;by_cases n:k<xs.length
  .obtain⟨x,O⟩:=AJ n;obtain⟨b,o,d,f,rfl,s,y,v,B,t,g⟩:=(hv.J hb).get O;have m:=Ma Ac.sz xs k x O;have HZ:Hid (((xs.take (k+1)).map Ac.sz).sum=((xs.take k).map Ac.sz).sum+Ac.sz x):=m;have aj:=j x (yd O);clear m;go_wp2_with (go_at_call 182;refine(zli x d f _ _ aj qd qd).ac ?_;rintro e w' ⟨⟨r',rfl,af⟩,hb'⟩)
   .exact Nf
   exact X2
  exact XW
def wm(x:Ru)(k m b d c f){q}(left w)(H:CH q w k x.af)(n:BP q w b x.exprs)(N:C9 q w c x.ao)(L:x.le maxLen)(h0:0<=left)(h1:left<=1048576) :
  Ca 66 #[.agg #[.string x.name,I6 x.aH,.slice k x.af.length m,.slice b x.exprs.length d,.slice c x.ao.length f],I6 left] w λe w'=>
   (∃r:Int,e=.returned (I6 r)/\Left r left x.sz)/\Bw w w':=by
 obtain⟨D,W,O,G⟩:=L;have Y:=D;unfold maxLen at Y;go_enter func66,ntmps66;go_wp2_with (first|(go_at_call 126;refine(ziy k m x.af _ _ (H.J Af) W qd qd).ac ?_;rintro e u ⟨⟨r1,rfl,B⟩,t⟩;have u1:r1<=1048576:=(by rcases B with g|⟨_,g⟩<;>omega);have s:Bw w u:=Af.aj t;have az:At u w.heap.size 3 (.slice b x.exprs.length d):=zab t qk;have R:At u w.heap.size 4 (.slice c x.ao.length f):=zab t qk)|(go_at_call 127;refine(zmW b d x.exprs _ _ (n.J (s)) O qd qd).ac ?_;rintro e U ⟨⟨r2,rfl,A⟩,y⟩;have u2:r2<=1048576:=(by rcases A with g|⟨_,g⟩<;>omega);have p:Bw w U:=(s).j (y.ac (s).size);have Z:=zab y R)|(go_at_call 128;refine(zkx c f x.ao _ _ (N.J (p)) G qd qd).ac ?_;rintro e M ⟨⟨I,rfl,v⟩,T⟩;have u3:I<=1048576:=(by rcases v with g|⟨_,g⟩<;>omega);have z:Bw w M:=(p).j (T.ac (p).size)))
 all_goals go_ret
 all_goals first
  |exact⟨⟨-1,rfl,.inl rfl⟩,z⟩
  |exact⟨⟨-1,rfl,.inl rfl⟩,p⟩
  |exact⟨⟨-1,rfl,.inl rfl⟩,s⟩
  |exact⟨⟨-1,rfl,.inl rfl⟩,Af⟩
  |(refine⟨⟨_,rfl,.inr ⟨qj,?_⟩⟩,z⟩;unfold Ru.sz;rcases B with K|⟨_,K⟩<;>rcases A with E|⟨_,E⟩<;>rcases v with C|⟨_,C⟩<;>omega)
def zmA(a c xs left w){q}(hv:Do q w a xs)(t:CP Ru.le maxLen xs)(M:0<=left)(R:left<=1048576) :
  Ca 20 #[.slice a xs.length c,I6 left] w λe w'=>
   (∃r:Int,e=.returned (I6 r)/\Left r left (EY Ru.sz xs))/\Bw w w':=by
 obtain⟨hl,t⟩:=t;unfold maxLen at hl;by_cases y:left<xs.length
 .go_enter func20,ntmps20;exact Ng
 go_enter func20,ntmps20;go_wp2
 go_loopw [1,5] (λl i wr=>∃(k:Nat)(r:Int),k<=xs.length/\i=I6 k/\l=I6 r/\0<=r/\r+xs.length+((xs.take k).map Ru.sz).sum<=left/\Bw w wr) (λ_ i _=>xs.length-(intOf i).toNat)
 case atStart=>exact⟨0,_,qd,rfl,rfl,qd,qe,Aj⟩
 case round=>
  obtain⟨k,r,I,rfl,rfl,D,B,hb⟩:=hrel;by_cases C:k<xs.length
  .obtain⟨x,s⟩:=AJ C;obtain⟨b,o,p,j,g,f,n,m,rfl,E,L,K,T,H,N,O,d,Y,G⟩:=(hv.J hb).get s;have u:=Ma Ru.sz xs k x s;have z:Hid (((xs.take (k+1)).map Ru.sz).sum=((xs.take k).map Ru.sz).sum+Ru.sz x):=u;have v:=t x (yd s);clear u;go_wp2_with (go_at_call 66;refine(wm x p j g f n m _ _ O d Y v qd qd).ac ?_;rintro e w' ⟨⟨A,rfl,aj⟩,hb'⟩)
   .exact Nf
   go_roundw
   case rel=>
    refine⟨k+1,A,qd,ql,rfl,qj,?_,hb.aj hb'⟩;rw[z.o];rcases aj with h|⟨_,h⟩<;>omega
   case measure=>simp[intOf];omega
  go_wp2;go_ret;refine⟨⟨r,rfl,.inr ⟨D,?_⟩⟩,hb⟩;rw[yu qd]at B;unfold EY;omega
end Go.Proofs.YtikojfajahnhgaaGreat
