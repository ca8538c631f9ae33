import Derived.Test.YtikojfajahnhgaaGreatKax
import Derived.Test.YtikojfajahnhgaaGreatKat
import Derived.Test.YtikojfajahnhgaaGreatKbd
set_option linter.all false
set_option maxHeartbeats 3200000
set_option maxRecDepth 100000
namespace Go.Proofs.YtikojfajahnhgaaGreat
attribute [local simp] At I6 Pn mzI
attribute [local go_sem] At I6 Pn
open Go.RowKit Go.Proofs.Tryz
section
open Go.Maps
attribute [local go_sem ↓] wp_at_zero wp_at_succ
def Ge.stop{c fs k D}(h:Ge c fs k D)(f:k<=fs.length)(d:fs.length<=k):(((Maps.size D:Nat):Int)==(fs.length:Int))=decide ((fs.map Bn).Nodup):=by
 obtain rfl:k=fs.length:=qd;have b:=h.iff;rw[yu AA]at b;by_cases a:(fs.map Bn).Nodup
 .rw[decide_eq_true a];have:=b.2 a;simp[this]
 rw[decide_eq_false a];have:Maps.size D≠fs.length:=λe=>a (b.1 e);simp;omega
def zjT{H w w' P k R b n B}{D:DataW H}(h:w.ownsMap P k R b n D)(d:Below B w w')(e:b<B):w'.ownsMap P k R b n D:=by
 obtain⟨es,a,f,c⟩:=h;exact⟨es,a,(d.block b e).j f,c⟩
def mK(a c fs w)(hv:BC w a fs)(hl:fs.length<=40)(I:∀f∈fs,Gg f)(B:∀f∈fs,(Lit.int .i64 f.tag).wf=true) :
  Ca 255 #[.slice a fs.length c] w λe w'=>
   e=.returned (.bool (decide ((fs.map Bn).Nodup)))/\Bw w w':=by
 obtain⟨v,K⟩:=KL.bV;have H:=Xt (P:=prog) (t:=398) underlying398;go_enter func255,ntmps255;go_wp2;clear H
 go_loopw [11] (λi wr=>∃(k:Nat)(D:DataW Unit),k<=fs.length/\i=.int .i64 k/\wr.ownsMap prog 382 (plainElem prog 3) w.heap.size k D/\Ge v fs k D/\Bw w wr) (mz fs.length)
 case atStart=>exact⟨0,.map [],qd,rfl,WB _ _ _ _,Ge.start v fs,Af⟩
 case round=>
  obtain⟨k,D,M,rfl,d,p,n⟩:=hrel;by_cases L:k<fs.length
  .obtain⟨f,O⟩:=AJ L;obtain⟨b,o,rfl,N,R,s,cs,T,q⟩:=hv.J n k f O;have l:=I f (yd O);have y:=B f (yd O);go_wp2;have u:Hid (wr.ownsMap prog 382 (plainElem prog 3) w.heap.size k D):=d;have U:w.heap.size<wr.heap.size:=d.lt;clear d
   go_region_held3 (λw'=>At w' wr.heap.size 0 (.int .i64 f.tag)/\At w' wr.heap.size 1 (.string f.ak)/\At w' wr.heap.size 2 (.slice s f.ad.length cs)) ((go_split_ands;refine ⟨?_,?_,?_⟩ <;> first | (simp[*,go_sem];done) | exact zab g (by simp[*,go_sem]) | exact m.o.cell (zab g (by simp[*,go_sem])) qg))
    (first|(go_at_call 257;refine(Ux f s cs _ (q.J ?_) l.2.1).ac ?_;exact Af.drew;rintro e w' ⟨rfl,g⟩;obtain⟨A,C,r,Y⟩:=(zjT (u.o.alloc _).drew g qg).update Lw (t:=398) underlying398 qm (K f l) (plainElem_int underlying3 y);have E:=Aa r;have m:=Aa Y;clear r Y))
   have G:Bw w A:=(n.j ((Af.drew.j (g.ac qe)).ac n.size)).grown m.o (by have:=g.size;simp at this;omega) (λj hj=>by cases hj;exact yX _);have z:=p.step K (u.o.tidy Lw) O l (.lit (.int .i64 f.tag));clear C p;go_wp2;go_roundw
   case rel=>exact⟨k+1,_,qd,ql,E.o,z,G⟩
   case measure=>(simp;omega)
  have x:=λty=>d.len (t:=398) underlying398 ty;go_wp2;go_ret;exact⟨AE (p.stop M qd),n⟩
end
section
attribute [local go_sem ↓] wp_at_zero wp_at_succ
def Ub{fs last}(e:∀f∈fs,AV f)(d:∀f∈fs,Cq f)(a:BO last fs=true):∀f∈fs,Gg f:=by
 induction fs generalizing last with
 |nil=>intro f b;simp at b
 |cons g r O=>
  intro f b;simp only[BO,Hj,C4,yk,decide_eq_true_eq]at a;rcases yO.1 b with rfl|i
  .exact⟨(e f qe).1,a.1.2.2.2.1,(d f qe).2⟩
  exact O (λx c=>e x (by simp[c])) (λx c=>d x (by simp[c])) a.2 f i
def vW(a c fs nx cp sg w)(hv:BC w a fs)(hl:fs.length<=1048576)(n:∀f∈fs,AV f)(l:FU fs nx cp=false) :
  Ca 213 #[.agg #[.slice a fs.length c,I6 nx,I6 cp,.bool sg]] w λe w'=>
   e=.returned (.bool (LS fs nx cp sg))/\Bw w w':=by
 have Y:Hid (LS fs nx cp sg=false):=by unfold LS;rw[l];exact rfl
 have O:cp<0∨(0<=cp/\40<cp)∨(0<=cp/\cp<=40/\cp<fs.length)∨(0<=cp/\cp<=40/\(fs.length:Int)<=cp/\nx<1)∨(0<=cp/\cp<=40/\(fs.length:Int)<=cp/\1<=nx/\1000001<nx)∨(0<=cp/\cp<=40/\(fs.length:Int)<=cp/\1<=nx/\nx<=1000001/\DC fs=false):=by
  rcases k8 fs nx cp l with h|h|h|⟨b,d,g,j⟩|⟨b,d,g,_,k⟩|⟨b,d,g,_,k,m⟩
  .omega
  .omega
  .omega
  .by_cases k:nx<1
   .omega
   by_cases m:1000001<nx
   .omega
   exact .inr (.inr (.inr (.inr (.inr ⟨b,d,g,qd,qd,j⟩))))
  .omega
  omega
 clear l;rcases O with b|⟨b,d⟩|⟨b,d,g⟩|⟨b,d,g,j⟩|⟨b,d,g,j,k⟩|⟨b,d,g,j,k,m⟩
 all_goals
  go_enter func213,ntmps213;go_wp2_with (go_at_call 107;refine(mG a c fs _ (hv.J Af) hl n).an λw' i=>?_;obtain⟨q,p⟩:=Ah i);go_ret
  first
  |exact⟨AE Y.o.ai,Af⟩
  |exact⟨AE Y.o.ai,Af.aj i⟩
def wL(a c fs nx cp sg w)(hv:BC w a fs)(u:∀f∈fs,AV f)(s:∀f∈fs,Cq f)(g:FU fs nx cp=true) :
  Ca 213 #[.agg #[.slice a fs.length c,.int .i64 nx,.int .i64 cp,.bool sg]] w λe w'=>
   e=.returned (.bool (LS fs nx cp sg))/\Bw w w':=by
 have HR:Hid (LS fs nx cp sg=(Of nx fs&&(!sg||decide ((fs.map Bn).Nodup)))):=by unfold LS;rw[g];exact rfl
 obtain⟨I,E,R,z,C,K⟩:0<=cp/\cp<=40/\(fs.length:Int)<=cp/\DC fs=true/\1<=nx/\nx<=1000001:=by
  unfold FU at g;simpa[yk] using g
 have D:∀f∈fs,Gg f:=Ub (last:=0) u s (by simp only[DC,yk]at z;exact z.2);clear g;go_enter func213,ntmps213;go_wp2_with (go_at_call 107;refine(mG _ c fs _ (hv.J Af) qd u).an λw' d=>?_;obtain⟨i,hf⟩:=Ah d);have N:w'.cell? ⟨w.heap.size,0,none⟩=some (.slice a fs.length c):=by rw[i _ _ qe];simp[go_sem]
 have M:w'.cell? ⟨w.heap.size,1,none⟩=some (.int .i64 nx):=by rw[i _ _ qe];simp[go_sem]
 have W:w'.cell? ⟨w.heap.size,3,none⟩=some (.bool sg):=by rw[i _ _ qe];simp[go_sem]
 have n:Bw w w':=Af.aj d;clear i hf d I E C K;cases Y:fs.getLast? with
 |none=>
  obtain rfl:fs=[]:=qU;clear Y
  go_quiet (fail)
  have O:Bw w (w'.drewN nq):=below_drewN n _;have j:=hv.J O;clear hv;cases sg
  all_goals
   go_wp2_with (go_at_call 255;refine(mK a c [] _ j qe (λf hf=>Mi) (λf hf=>Mi)).an λG k=>?_);go_ret
  .exact⟨AE (by rw[HR.o];rfl),O⟩
  .exact⟨AE (by rw[HR.o];rfl),O.aj k⟩
 |some l=>
  obtain⟨m,y⟩:∃m,fs.length=m+1:=⟨fs.length-1,by cases fs with|nil=>simp at Y|cons x r=>simp⟩
  have A:fs[m]?=some l:=by rw[Ke,y]at Y;simpa using Y
  obtain⟨b,o,rfl,v,_,_,_,_,_⟩:=(hv.J n) m l A;have t:w'.cell? ⟨b,o+(fs.length-1)*3,none⟩=some (.int .i64 l.tag):=by
   rw[show fs.length-1=m by omega];exact v
  have L:(0:Int)<=(fs.length:Int)-1:=qd;have H:(fs.length:Int)-1<(fs.length:Int):=qd;have U:(0:Int)<(fs.length:Int):=qd;have T:(1:Int)<=(fs.length:Int):=qd;clear v y;have Z:decide (0<fs.length)=true:=by simp;omega
  have B:IntKind.i64.wrap ((fs.length:Int)-1)=(fs.length:Int)-1:=by rw[yS];omega
  go_region_held3 (λq=>q.cell? ⟨w.heap.size,0,none⟩=some (.slice (some ⟨b,o,none⟩) fs.length c)/\q.cell? ⟨w.heap.size,1,none⟩=some (.int .i64 nx)/\q.cell? ⟨b,o+(fs.length-1)*3,none⟩=some (.int .i64 l.tag)) ((exact⟨N,M,t⟩)) (fail)
  have O:Bw w w'.drew:=n.drew;have j:=hv.J O;have HL:Hid (Of nx fs=decide (l.tag<nx)):=by unfold Of;rw[Y];exact rfl
  clear hv t B L H;by_cases ht:nx<=l.tag
  .go_wp2;go_ret;exact⟨AE (by rw[HR.o,HL.o,decide_eq_false qd];rfl),O⟩
  cases sg
  all_goals
   go_wp2_with (go_at_call 255;refine(mK (some ⟨b,o,none⟩) c fs _ j qd D (λf hf=>(s f hf).1)).an λG k=>?_);go_ret
  .exact⟨AE pB,O⟩
  exact⟨AE pB,O.aj k⟩
def JZ(a c fs nx cp sg w)(hv:BC w a fs)(hl:fs.length<=1048576)(d:∀f∈fs,AV f)(g:∀f∈fs,Cq f) :
  Ca 213 #[.agg #[.slice a fs.length c,I6 nx,I6 cp,.bool sg]] w λe w'=>
   e=.returned (.bool (Cg fs nx cp sg))/\Bw w w':=by
 rw[<-zY];cases b:FU fs nx cp
 .exact vW a c fs nx cp sg w hv hl d b
 exact wL a c fs nx cp sg w hv d g b
end
section
open Go.Deep
def xQ:prog.cellsOf 128=1:=qf
section
variable {H : Type} {enc : TypeId × Value -> H} {w : World} {base : Nat} {spare : Nat -> Bool} {held : Bool}
def uF{n cs x}(h:DataW.trod enc prog w base spare held n 128 cs=some x) :
  ∃a c,∃vs:List V,cs=[.slice a vs.length c]/\Bj w a vs/\vs.length<=maxLen/\∀v∈vs,C8 v:=by
 rcases open_slice underlying128 h with⟨rfl,_⟩|⟨a,len,cap,m,k,D,u,rfl,_,hl,z,p,_,l⟩
 .exact nA
 have y:len<=m:=by rw[p];split<;>omega
 have each:∀i,i<len->∃v:V,(w.cell? (a.add (i*3))=some (I6 v.kind)/\w.cell? (a.add (i*3+1))=some (I6 v.num)/\w.cell? (a.add (i*3+2))=some (.string v.av))/\C8 v:=by
  intro i hi;obtain⟨j,g,r⟩:=l i qd;rw[Uq]at g;obtain⟨_,e,O⟩:=XA g
  match j,e with
  |[v0,v1,v2],_=>
   obtain⟨v,rfl,rfl,rfl,hv⟩:=Ud r;have Y:=O 0 qd;have e1:=O 1 qd;have d:=O 2 qd;rw[add_add]at Y e1 d;exact⟨v,⟨qU,QB,by simpa using d⟩,hv⟩
 obtain⟨f,hf⟩:=choose_lt each;refine⟨some a,cap,(List.range len).map f,qe,?_,qg,?_⟩
 .intro i v hv;obtain⟨t,rfl⟩:=Xd hv;obtain⟨⟨Y,e1,d⟩,_⟩:=hf i t;obtain⟨b,o,s⟩:=a;have q:s=none:=VC (by simpa using(hf 0 qd).1.1) Y;subst q;refine⟨b,o,rfl,?_,?_,?_⟩
  .rw[YZ]at Y;exact Y
  .rw[YZ]at e1;exact e1
  rw[YZ]at d;exact d
 exact XI
end
end
def BV:List Cn->List F->List (List F)
 |[],T=>[T]
 |c::cs,T=>if c.neg=true then(if c.facts.any (λf=>c.ah.all (Aq T f))=true then [] else BV cs T) else c.facts.flatMap (λf=>if c.ah.all (Aq T f)=true then BV cs (T++[f]) else [])
def Vv{c cs T}(h:c.neg=true):BV (c::cs) T=if c.facts.any (λf=>c.ah.all (Aq T f))=true then [] else BV cs T:=by
 simp only[BV];rw[if_pos h]
def Vt{c cs T}(h:c.neg=false):BV (c::cs) T=c.facts.flatMap (λf=>if c.ah.all (Aq T f)=true then BV cs (T++[f]) else []):=by
 simp only[BV];rw[if_neg (by rw[h];simp)]
def SH{α β:Type}(p q:α->Bool)(g:α->List β):∀l:List α,(l.filter p).flatMap (λx=>if q x=true then g x else [])=(l.filter (λx=>p x&&q x)).flatMap g
 |[]=>rfl
 |x::r=>by
  by_cases a:p x=true
  .by_cases b:q x=true
   .rw[yL a,yL (by simp[a,b]),yE,yE,if_pos b,SH p q g r]
   rw[yL a,yN (by simp[b]),yE,if_neg b,SH p q g r]
   rfl
  rw[yN a,yN (by simp[a]),SH p q g r]
def iI{fs}:∀(cs:List Cn)(O:List Cp),cs.length=O.length->(∀(k:Nat)(c:Cn)(d:Cp),cs[k]?=some c->O[k]?=some d->IC fs c d)->∀T,BV cs T=CX O fs T
 |[],[],_,_,_=>rfl
 |[],_::_,h,_,_=>by simp at h
 |_::_,[],h,_,_=>by simp at h
 |c::cs,d::O,hl,he,T=>by
  obtain⟨f,i,g,j,e⟩:=he 0 c d rfl rfl
  have Y:=iI cs O Mh (λk b a hc hd=>he (k+1) b a qY qw)
  simp only[BV,CX]
  rw[f,g,e,zna,SH]
  simp only[Y]
  rfl
def D_:List Cn->List F->Prop
 |[],_=>True
 |c::cs,T=>c.at_=T.length/\(c.neg=false->T.length<3)/\(∀f∈c.facts,∀t∈c.ah,t.fits T f)/\(if c.neg=true then D_ cs T else∀f∈c.facts,c.ah.all (Aq T f)=true->D_ cs (T++[f]))
def NL.snoc{T vs f}(h:NL T vs):NL (T++[f]) vs:=λv hv=>by
 obtain⟨g,a,b⟩:=h v hv;exact⟨g,by rw[yB (yf.1 a).1];exact a,b⟩
def VN{fs}:∀(b:List Pt)(vs:List Vr)(T:List F)(cs:List Cn),Fu b vs T.length->NL T vs->T.length+Ad b<=3->cs.length=(Bz b vs T.length).length->(∀(k:Nat)(c:Cn)(d:Cp),cs[k]?=some c->(Bz b vs T.length)[k]?=some d->IC fs c d)->D_ cs T
 |[],_,_,[],_,_,_,_,_=>trivial
 |[],_,_,_::_,_,_,_,h,_=>by simp[Bz]at h
 |_::_,_,_,[],_,_,_,h,_=>by simp[Bz]at h
 |p::b,vs,T,c::cs,hk,hV,hn,hl,he=>by
  obtain⟨s,_,O⟩:=hk
  simp only[Bz]at hl he
  obtain⟨n,q,u,v,r⟩:=he 0 c _ rfl rfl
  simp only at n q u v r
  have j:∀f∈c.facts,∀t∈c.ah,t.fits T f:=λf l=>by
   rw[r]at l
   rw[u]
   exact wy hV s (yg.1 l).2
  have Y:∀(k:Nat)(o:Cn)(m:Cp),cs[k]?=some o->(if p.neg=true then Bz b vs T.length else Bz b (CI vs p.aa T.length p.aa.length) (T.length+1))[k]?=some m->IC fs o m:=λk o m hc hd=>he (k+1) o m qY qw
  have i:cs.length=(if p.neg=true then Bz b vs T.length else Bz b (CI vs p.aa T.length p.aa.length) (T.length+1)).length:=Mh
  by_cases a:p.neg=true
  .have w:Ad (p::b)=Ad b:=by simp[Ad,GE,a]
   rw[if_pos a]at O i Y
   refine⟨q,λhc=>?_,j,?_⟩
   .rw[n,a]at hc
    cases hc
   rw[if_pos (by rw[n];exact a)]
   exact VN b vs T cs O hV qd i Y
  have w:Ad (p::b)=Ad b+1:=by simp[Ad,GE,a]
  rw[if_neg a]at O i Y
  refine⟨q,λ_=>qd,j,?_⟩
  rw[if_neg (by rw[n];exact a)]
  intro f l _
  rw[r]at l
  have x:=(yg.1 l).2
  have e:(T++[f]).length=T.length+1:=qe
  refine VN b _ (T++[f]) cs (by rw[e];exact O) (Um hV.snoc (g:=f) qe (ls s x) _ AA) (by rw[e];omega) (by rw[e];exact i) (by rw[e];exact Y)
section
attribute [local go_sem ↓] wp_at_zero wp_at_succ
def rN(x T):(Ce x (uv T)).getD (.agg #[])=.agg #[]:=by
 cases h:Ce x (uv T) with
 |none=>rfl
 |some v=>
  unfold Ce uv at h;obtain⟨y,a,rfl⟩:=Ya.1 h;obtain⟨z,_,rfl⟩:=yz.1 (List.mem_of_find?_eq_some a);rfl
def A6.aI{w w' b r g L a}(h:A6 w b r L a)(d:Bi (some g) w w')(i:CK w w')(f:g≠b)(c:g≠r):A6 w' b r L a:=h.aM (S:=λx=>x=g) (Av.of d rfl) i (λe=>f e.ai) (λe=>c e.ai)
def zm(cb nb wb r T todo M x w)(h:CS w cb nb wb T M)(hR:A6 w nb r (uv T) todo)(hr:r≠wb)(hx:AK w x)(hk:-9<=Ar x M/\Ar x M<=9) :
  Ca 211 #[Pn cb,AU x] w λe w'=>e=.returned (.tuple #[])/\CS w' cb nb wb (T.filter (λy=>decide (y≠x))) (E9 x (-1) M)/\A6 w' nb r (uv (T.filter (λy=>decide (y≠x)))) (todo.filter (λy=>decide (y≠x)))/\Av (λg=>g=nb∨g=wb) w w':=by
 exact p8
def xg(cb nb wb T M x w)(h:CS w cb nb wb T M)(i:AK w x) :
  Ca 212 #[Pn cb,AU x] w λe w'=>e=.returned (.bool (decide (x∈T)))/\Bw w w':=by
 obtain⟨b,g⟩:=Ak h i;obtain⟨x0,x1,c⟩:=x;obtain⟨d,hd⟩:∃d,d=decide ((x0,x1,c)∈T):=⟨_,rfl⟩
 rw[<-hd];have l:=Aa hd;clear h i hd;go_enter func212,ntmps212;unfold AU;go_upto_region 1 with fail;refine Bt ?_;intro a O Y;have z:At a cb 0 (.map (some nb)):=AF (L:=[_,_]) (b.o.J O).q (j:=0) rfl;obtain⟨s,v,t2⟩:=C7 Y rfl;have f:∀u,Bw w u->(Instr.lookup 260 (.map (some nb)) (.agg #[.pointer x0,.pointer x1,.pointer c]) true).run prog u=.ok (.tuple #[.agg #[],.bool d]) u:=λu hu=>by
  have h:=MM tys EJ (ZL u) (b.o.J hu).now (g.o.J hu) true;have m:(Ce (x0,x1,c) (uv T)).isSome=decide ((x0,x1,c)∈T):=by
   rw[KZ,decide_eq_true_eq,MV,Pp]
  rw[m,if_pos rfl,<-l.o,rN]at h;exact h
 have k:cb<a.heap.size:=As (b.o.J O).q;have t:w.heap.size<a.heap.size:=As Y;have p:=f a.drew O.drew;have y:=λo=>f (a.drew.alloc o) (O.drew.alloc qg o);have r:=λo=>f (a.alloc o).drew (O.alloc qd o).drew;have n:=Aa O;clear f O Y b g;go_wp2_with fail;go_region;go_wp2_with fail;go_ret;exact⟨rfl,(n.o.alloc qd _).drew⟩
def Pa:Option Nat->Int
 |some i=>i
 |none=>-1
def VE(a c fs tag w)(hv:BC w a fs)(hl:fs.length<=1048576) :
  Ca 121 #[.slice a fs.length c,I6 tag] w λe w'=>e=.returned (I6 (Pa (AD tag fs)))/\w'=w:=by
 go_enter func121,ntmps121;go_wp2
 go_loop [8] (λi=>∃(k:Nat),k<=fs.length/\i=I6 k/\AD tag fs=(AD tag (fs.drop k)).map (·+k)) (λi=>fs.length-(intOf i).toNat)
 case atStart=>exact⟨0,qd,rfl,qe⟩
 case round=>
  obtain⟨k,l,rfl,g⟩:=hrel;have HG:=Aa g;clear g;by_cases Y:k<fs.length
  .obtain⟨f,O⟩:=AJ Y;obtain⟨b,o,rfl,j,_,_,_,_,_⟩:=hv k f O;have d:=Aa (Ck O);cases ht:(f.tag==tag)
   .go_wp2
    go_round
    case rel=>
     refine⟨k+1,qd,ql,?_⟩;rw[HG.o,d.o,AD,if_neg NB,Option.map_map];congr 1
     funext x
     simp;omega
    case measure=>simp[intOf];omega
   go_wp2;go_ret;refine⟨E_ ?_,rfl⟩;rw[HG.o,d.o,AD,if_pos NB];simp[Pa]
  go_wp2;go_ret;refine⟨E_ ?_,rfl⟩;exact Qr
def Sy(a c fs nx cp sg w)(hv:BC w a fs)(hl:fs.length<=1048576)(k:∀f∈fs,f.ad.length<=1048576) :
  Ca 118 #[.agg #[.slice a fs.length c,I6 nx,I6 cp,.bool sg]] w λe w'=>
   (∃b i xs,e=.returned (.agg #[.slice b fs.length i,I6 nx,I6 cp,.bool sg])/\Bp w' w.heap.size (.slice b fs.length i) fs.length fs xs)/\Bw w w':=by
 go_enter func118,ntmps118;go_wp2
 go_region_held3 (λw'=>At w' w.heap.size 0 (.slice a fs.length c)/\At w' w.heap.size 1 (I6 nx)/\At w' w.heap.size 2 (I6 cp)/\At w' w.heap.size 3 (.bool sg)) ((go_split_ands;refine ⟨?_,?_,?_,?_⟩ <;> first | (simp[*,go_sem];done) | exact zab O (by simp[*,go_sem]) | (simp[WF];exact zab O (by simp[*,go_sem]))))
  (first|(go_at_call 177;refine(zm9 a c fs _ (hv.J ?_) hl k).ac ?_;exact Ax.drew;rintro e l ⟨⟨d,g,xs,rfl,Y⟩,O⟩;obtain⟨m,n⟩:=Ah O))
 go_wp2;refine bodyPost_ret (v:=.agg #[.slice d fs.length g,I6 nx,I6 cp,.bool sg]) (by simp[results,results118,go_sem,m]) rfl ⟨⟨d,g,xs,rfl,?_⟩,?_⟩
 .exact((((Y.set qe _).set qe _).set qe _).set qe _).lower qg
 have hB:Bw w l:=Ax.drew.j (O.ac qg);exact oH
def Gx(tag:Int)(f:F):Bool:=f.tag != tag
structure LG(Z:Nat->Prop) (w0 w:World) (v:Value) (n:Nat) (fs:List F) (xs:List Value):Prop where
 num:n=fs.length
 len:xs.length=fs.length
 own:w.ownsRow w0.heap.size 145 3 v n (Be fs xs)
 each:∀(i:Nat)(f:F)(x:Value),fs[i]?=some f->xs[i]?=some x->∃a c,x=.slice a f.ad.length c/\Fx Z w0 a f.ad
def LG.at{Z w0 w a n c fs xs}(h:LG Z w0 w (.slice a n c) n fs xs)(r:Bw w0 w):DD (λb=>Z b∨(w0.heap.size<=b/\b<w.heap.size)) w a fs:=by
 intro i f d;have o:i<fs.length:=(yf.1 d).1;have l:xs[i]?=some (xs[i]'(by rw[h.len];exact o)):=yK _;obtain⟨p,s,e,m⟩:=h.each i f _ d l;have key:=λj(hj:j<3)=>Ov fs xs h.len i f _ d l j hj;obtain⟨g,rfl,_,h0,_⟩:=CC h.own ((key 0 qd).j rfl);obtain⟨u,Y,_,h1,_⟩:=CC h.own ((key 1 qd).j rfl);obtain⟨t,O,_,h2,_⟩:=CC h.own ((key 2 qd).j rfl);cases Y;cases O;rw[e]at h2;exact⟨g,0,.inr (h.own.lt g rfl),rfl,qC,qt,p,s,qv,(m.kept (λb _ k=>r.block b k)).ac (λb q=>.inl q)⟩
def LG.snoc{Z w0 w w' v e n fs xs f x}(h:LG Z w0 w v n fs xs)(g:∃a c,x=.slice a f.ad.length c/\Fx Z w0 a f.ad)(ho:w'.ownsRow w0.heap.size 145 3 e (n+1) (Be fs xs++A_ f x)):LG Z w0 w' e (n+1) (fs++[f]) (xs++[x]):=by
 refine⟨by simp[h.num],by simp[h.len],Zf,?_⟩;intro i Y y b d;by_cases hi:i<fs.length
 .rw[yB hi]at b;rw[yB To]at d;exact h.each i Y y b d
 have O:i<(fs++[f]).length:=(yf.1 b).1;simp at O;obtain rfl:i=fs.length:=qd;rw[yF AA]at b;rw[yF Zh,h.len]at d;simp at b d;subst b;subst d;exact g
def mL(Z a c fs tag w)(u:DD Z w a fs)(hl:fs.length<=1048576) :
  Ca 122 #[.slice a fs.length c,.int .i64 tag] w λe w'=>
   (∃d g xs,e=.returned (.slice d (fs.filter (Gx tag)).length g)/\LG Z w w' (.slice d (fs.filter (Gx tag)).length g) (fs.filter (Gx tag)).length (fs.filter (Gx tag)) xs)/\Bw w w':=by
 go_enter func122,ntmps122;go_wp2
 go_loopw [5,10] (λv i wr=>∃(k n:Nat)(d:Option Addr)(g:Nat)(xs:List Value),k<=fs.length/\n<=k/\i=.int .i64 k/\v=.slice d n g/\LG Z w wr (.slice d n g) n ((fs.take k).filter (Gx tag)) xs/\Bw w wr) (λ_ i _=>fs.length-(intOf i).toNat)
 case atStart=>exact⟨0,0,none,0,[],qd,qd,rfl,rfl,⟨rfl,rfl,y9 _ _ _ _,λi f x hf=>Mi⟩,Aj⟩
 case round=>
  obtain⟨k,n,d,g,xs,K,J,rfl,rfl,p,m⟩:=hrel;have l:=Aa p;by_cases B:k<fs.length
  .obtain⟨f,Y⟩:=AJ B;obtain⟨b,o,_,rfl,y,z,s,cs,t,q⟩:=u k f Y;have M:=zab m y;have L:=zab m z;have I:=zab m t;have O:w.heap.size<=wr.heap.size:=m.size;clear p u y z t;cases A:(f.tag != tag)
   .have r:Hid ((fs.take (k+1)).filter (Gx tag)=(fs.take k).filter (Gx tag)):=by
     show _=_;rw[GC fs k f Y,yQ];simp[Gx,A]
    go_wp2;go_roundw
    case rel=>exact⟨k+1,n,d,g,xs,qd,qd,ql,rfl,by rw[r.o];exact⟨l.o.num,l.o.len,l.o.own.alloc _,l.o.each⟩,m.alloc O _⟩
    case measure=>simp[intOf];omega
   have r:Hid ((fs.take (k+1)).filter (Gx tag)=(fs.take k).filter (Gx tag)++[f]):=by
    show _=_;rw[GC fs k f Y,yQ];simp[Gx,A]
   go_wp2_with (at_builtin;refine EU qi (.tmp 18) (.tmp 20) 25 qi w.heap.size 145 _ 3 48 underlying25 Oe qi qd _ n _ qi ((l.o.own.alloc _).alloc _) (some ⟨wr.heap.size+1,0,none⟩) 1 1 qi (A_ f (.slice s f.ad.length cs)) qi (λe=>qp) (by rw[<-Wy];exact OK _ _ _) (OP _ _ _ _) qm qd qg ?_;intro D E H G C N);have hS:=l.o.snoc (w':=H) ⟨s,cs,rfl,q⟩ G.o;go_roundw
   case rel=>
    rw[<-r.o]at hS;exact⟨k+1,n+1,D,E,_,qd,qd,ql,rfl,hS,((m.alloc O _).alloc qg _).grown C.o qg (λj hj=>(l.o.own.lt j hj).1)⟩
   case measure=>simp[intOf];omega
  go_wp2;go_ret;obtain rfl:k=fs.length:=qd;rw[yu AA]at p;obtain rfl:=p.num;exact⟨⟨d,g,xs,rfl,p⟩,m⟩
end
structure C6 where
 fs:List F
 nx:Int
 cp:Int
 sg:Bool
 code:Int
 tag:Int
def C6.bad:C6:=⟨[],0,0,false,1,0⟩
def C6.val(r:C6)(a:Option Addr)(c:Nat):Value:=.agg #[.slice a r.fs.length c,.int .i64 r.nx,.int .i64 r.cp,.bool r.sg,.int .i64 r.code,.int .i64 r.tag]
def CV(fs:List F)(nx cp:Int)(sg:Bool)(tag:Int):C6:=
 if Cg fs nx cp sg then(match AD tag fs with|none=>⟨fs,nx,cp,sg,5,0⟩|some i=>⟨fs.eraseIdx i,nx,cp,sg,0,tag⟩) else C6.bad
def jB{fs nx cp sg tag}(h:Cg fs nx cp sg=false):CV fs nx cp sg tag=C6.bad:=by unfold CV;rw[h];rfl
def Sv{fs nx cp sg tag}(h:Cg fs nx cp sg=true)(a:AD tag fs=none):CV fs nx cp sg tag=⟨fs,nx,cp,sg,5,0⟩:=by unfold CV;rw[h,a];rfl
def Ss{fs nx cp sg tag i}(h:Cg fs nx cp sg=true)(a:AD tag fs=some i):CV fs nx cp sg tag=⟨fs.eraseIdx i,nx,cp,sg,0,tag⟩:=by unfold CV;rw[h,a];rfl
def PH{last}:∀{fs:List F},BO last fs=true->∀f∈fs,last<f.tag
 |[],_,f,hf=>by simp at hf
 |g::r,h,f,hf=>by
  simp only[BO,Hj,yk,decide_eq_true_eq]at h
  rcases yO.1 hf with rfl|a
  .exact h.1.1
  have:=PH h.2 f a
  omega
def Xh{tag}:∀{fs:List F}{last:Int}{i:Nat},BO last fs=true->AD tag fs=some i->fs.filter (Gx tag)=fs.eraseIdx i
 |[],_,_,_,h=>by simp[AD]at h
 |f::r,last,i,hg,h=>by
  have O:BO f.tag r=true:=by simp only[BO,yk]at hg;exact hg.2
  unfold AD at h
  by_cases a:f.tag=tag
  .rw[if_pos a]at h
   cases h
   rw[List.filter_cons,List.eraseIdx_zero]
   have:Gx tag f=false:=by simp[Gx,a]
   rw[this]
   simp only[YE,if_false,List.tail_cons]
   rw[Yv]
   intro g Y
   have:=PH O g Y
   simp[Gx]
   omega
  rw[if_neg a]at h
  obtain⟨j,hj,rfl⟩:=Ya.1 h
  rw[List.filter_cons,Wp]
  have:Gx tag f=true:=by simp[Gx,a]
  rw[this,if_pos rfl,Xh O hj]
def Qi{fs nx cp sg}(h:Cg fs nx cp sg=true):BO 0 fs=true:=by
 simp only[Cg,FU,DC,yk]at h;exact h.1.2.2.2.1.2
def Ou{tag}:∀{fs:List F}{i:Nat},AD tag fs=some i->i<fs.length
 |[],_,h=>by simp[AD]at h
 |f::r,i,h=>by
  unfold AD at h
  split at h
  .cases h;simp
  obtain⟨j,hj,rfl⟩:=Ya.1 h
  have:=Ou hj
  simp
  omega
def zjx(a c fs nx cp sg tag w)(hv:BC w a fs)(D:fs.length<=c)(hl:fs.length<=1048576)(y:∀f∈fs,AV f) :
  Ca 61 #[.agg #[.slice a fs.length c,I6 nx,I6 cp,.bool sg],I6 tag] w λe w'=>
   (∃I R,e=.returned ((CV fs nx cp sg tag).val I R)/\DD (λb=>w.heap.size<=b) w' I (CV fs nx cp sg tag).fs/\(CV fs nx cp sg tag).fs.length<=R)/\Bw w w':=by
 have aP:w.heap.size<w.heap.size+1+1:=qd;have n:∀f∈fs,f.ad.length<=1048576:=λf hf=>(y f hf).2.1;cases x:Cg fs nx cp sg
 .rw[jB x];go_enter func61,ntmps61;go_wp2_with (go_at_call 115;refine(JY a c fs nx cp sg _ (hv.J Ax) D hl y).an λw1 O=>?_;obtain⟨q,M⟩:=Ah O);refine bodyPost_ret (v:=C6.bad.val none 0) (by simp[results,results61,go_sem,q,C6.val,C6.bad]) rfl ⟨⟨none,0,rfl,λi f hf=>Nx,yA _⟩,?_⟩;exact X0
 cases k:AD tag fs with
 |none=>
  rw[Sv x k];have aF:Pa (AD tag fs) = -1:=by rw[k];rfl
  clear k;go_enter func61,ntmps61;go_wp2_with (go_at_call 115;refine(JY a c fs nx cp sg _ (hv.J Ax) D hl y).an λw1 O=>?_;obtain⟨q,M⟩:=Ah O);have l:Bw w w1:=Ax.aj O;have p:w.heap.size+1<w1.heap.size:=by have:=O.size;simp at this;omega
  refine(Sy a c fs nx cp sg w1 (hv.J l) hl n).ac ?_;rintro e d ⟨⟨t,A,T,rfl,B⟩,Y⟩;have m:Bw w d:=l.aj Y;obtain⟨C,aH⟩:=Ah Y;have aj:w.heap.size+1<d.heap.size:=yh p Y.size;have aD:w.heap.size<d.heap.size:=qd;have U:w.heap.size<w1.heap.size:=qd;have E:=hv.J m;go_wp2_with (go_at_call 121;refine(VE a c fs tag _ (E.J ?_) hl).ac ?_;exact Af;rintro e w3 ⟨rfl,rfl⟩);refine bodyPost_ret (v:=C6.val ⟨fs,nx,cp,sg,5,0⟩ t A) (by simp[results,results61,go_sem,q,C,C6.val,p,aj]) rfl ⟨⟨t,A,rfl,?_,MP B.own⟩,?_⟩
  .exact(((((((B.set qg _).set qg _).set qg _).set qg _).set qg _).set qg _).dc _).on.ac λb hb=>yi l.size hb.1
  .exact((((((m.setCell qe _).setCell qe _).setCell qe _).setCell qe _).setCell qe _).setCell qe _).alloc (by simp[World.setCell];omega) _
 |some i=>
  rw[Ss x k];have N:=Xh (Qi x) k;have aF:Pa (AD tag fs)=(i:Int):=by rw[k];rfl
  have K:=Aa N;clear k N;go_enter func61,ntmps61;go_wp2_with (go_at_call 115;refine(JY a c fs nx cp sg _ (hv.J Ax) D hl y).an λw1 O=>?_;obtain⟨q,M⟩:=Ah O);have l:Bw w w1:=Ax.aj O;have p:w.heap.size+1<w1.heap.size:=by have:=O.size;simp at this;omega
  refine(Sy a c fs nx cp sg w1 (hv.J l) hl n).ac ?_;rintro e d ⟨⟨t,A,T,rfl,B⟩,Y⟩;have m:Bw w d:=l.aj Y;obtain⟨C,aH⟩:=Ah Y;have aj:w.heap.size+1<d.heap.size:=yh p Y.size;have aD:w.heap.size<d.heap.size:=qd;have U:w.heap.size<w1.heap.size:=qd;have E:=hv.J m;have hZ:=λo=>(B.on.kept (w':=d.alloc o) (λb _ g=>yV _ _ _ g))
  go_wp2_with (first|(go_at_call 121;refine(VE a c fs tag _ (E.J ?_) hl).ac ?_;exact Af;rintro e w3 ⟨rfl,rfl⟩)|(go_at_call 122;refine(mL _ t A fs tag _ (hZ _) hl).ac ?_;rintro e G ⟨⟨H,L,aN,rfl,r⟩,z⟩;obtain⟨W,aO⟩:=Ah z));rw[K.o]at r;have aM:d.heap.size<G.heap.size:=by have:=z.size;simp at this;omega
  have aL:w.heap.size+1<G.heap.size:=qd;obtain⟨hE,av⟩:=Ak (r.at z) (MP r.own);clear r;have aG:w.heap.size+1<d.heap.size+1:=qd;have aK:¬w.heap.size+1=d.heap.size:=qd;have aQ:¬d.heap.size=w.heap.size+1:=qd;refine bodyPost_ret (v:=C6.val ⟨fs.eraseIdx i,nx,cp,sg,0,tag⟩ H L) (by simp[results,results61,go_sem,q,C,W,C6.val,p,aj,aG,K.o]) rfl ⟨⟨H,L,rfl,?_,av.o⟩,?_⟩
  .refine DD.ac (hE.o.kept ?_) (λb s=>by have:=m.size;have:=l.size;simp at s;omega);intro b s g;have Z:b≠d.heap.size:=by simp at s g;omega
   have az:b≠w.heap.size+1:=by simp at s g;omega
   have k1:∀(v:World)o u,(v.setCell ⟨d.heap.size,o,none⟩ u).heap[b]?=v.heap[b]?:=λv o u=>Yb _ _ _ _ Z;have k2:∀(v:World)o u,(v.setCell ⟨w.heap.size+1,o,none⟩ u).heap[b]?=v.heap[b]?:=λv o u=>Yb _ _ _ _ az;simp only[k1,k2]
  have aI:Bw w G:=(m.alloc qd _).j (z.ac qg);exact((((((aI.setCell qg _).setCell qe _).setCell qe _).setCell qe _).setCell qe _).setCell qe _).setCell qe _
section
open Go.Maps
attribute [local go_sem ↓] wp_at_zero wp_at_succ
def rr{k:Nat}(h:k<=1048576):(Lit.int .i64 (k:Int)).wf=true:=by
 exact nL
end
section
attribute [local go_sem ↓] wp_at_zero wp_at_succ
structure Mk(S:Nat->Prop) (w w':World):Prop where
 rest:Below 0 w w'
 block:∀g,g<w.heap.size->¬S g->w'.heap[g]?=w.heap[g]?
def Mk.j{S a b c}(h:Mk S a b)(k:Mk S b c):Mk S a c:=
 ⟨h.rest.j k.rest,λg d e=>(k.block g (yh d h.rest.size) e).j (h.block g d e)⟩
def Mk.ac{S T a b}(h:Mk S a b)(O:∀g,S g->T g):Mk T a b:=⟨h.rest,λg c e=>h.block g c (λd=>e (O g d))⟩
def Mk.ab{S a b}(h:Bw a b):Mk S a b:=⟨h.ac (yA _),λg c _=>h.block g c⟩
def Mk.set{S w p}(b:S p.block)(u):Mk S w (w.setCell p u):=
 ⟨Aj.setCell (yA _) _,λ_ _ a=>Yb _ _ _ _ (λe=>a (e▸b))⟩
def Mk.J{S w w' B}(h:Mk S w w')(b:B<=w.heap.size)(a:∀g,S g->B<=g):Below B w w':=
 ⟨h.rest.os,h.rest.tape,h.rest.output,h.rest.size,λk c=>h.block k qd (λhS=>by have:=a k hS;omega)⟩
def zmc(fs gs xs ys)(h:xs.length=fs.length):Be (fs++gs) (xs++ys)=Be fs xs++Be gs ys:=by
 unfold Be;rw[KX h.ai,Yu]
def Bp.eh{w w' base B v l u n m fs gs xs ys}(h:Bp w base v n fs xs)(d:∀g,Pc v xs g->g<B)(hu:Bp w B u m gs ys)(D:base<=B)(E:w'.ownsRow base 145 3 l (n+m) (Be fs xs++Be gs ys))(x:w.grownBy w' v.ownBlock)(hl:l.ownBlock=v.ownBlock∨l.ownBlock=some w.heap.size):Bp w' base l (n+m) (fs++gs) (xs++ys):=by
 have r:∀y∈xs,∀g,y.ownBlock=some g->g<w.heap.size/\v.ownBlock≠some g/\g<B:=λy b g O=>⟨(h.range (.inr ⟨y,b,O⟩)).2,λe=>h.apart y b g e O,d g (.inr ⟨y,b,O⟩)⟩
 have b:∀y∈ys,∀g,y.ownBlock=some g->g<w.heap.size/\v.ownBlock≠some g/\B<=g:=λy b g O=>by
  have t:=hu.range (.inr ⟨y,b,O⟩);exact⟨t.2,λe=>by have:=d g (.inl e);omega,t.1⟩
 have q:∀y:Value,y∈xs++ys->∀g,y.ownBlock=some g->g<w.heap.size/\v.ownBlock≠some g/\w'.heap[g]?=w.heap[g]?:=by
  intro y a g O;have:g<w.heap.size/\v.ownBlock≠some g:=by
   rcases yr.1 a with a|a
   .exact⟨(r y a g O).1,(r y a g O).2.1⟩
   exact⟨(b y a g O).1,(b y a g O).2.1⟩
  exact⟨this.1,this.2,x.block g this.1 (λe=>this.2 e.ai)⟩
 refine⟨by simp[h.num,hu.num],by simp[h.len,hu.len],by rw[zmc fs gs xs ys h.len];exact E,?_,?_,?_⟩
 .intro i f y o Y;by_cases hi:i<fs.length
  .rw[yB hi]at o;have p:=Y;rw[yB To]at Y;obtain⟨k,c⟩:=h.each i f y o Y;exact⟨k,BZ c (λg O=>(q y (yd p) g O).2.2)⟩
  rw[yF qd]at o;have p:=Y;rw[yF (by rw[h.len];omega),h.len]at Y;obtain⟨k,c⟩:=hu.each _ f y o Y;exact⟨k,DT (BZ c (λg O=>(q y (yd p) g O).2.2)) D⟩
 .intro y a g s O;obtain⟨k,c,_⟩:=q y a g O;rcases hl with hl|hl
  .exact c (hl.ai.j s)
  rw[hl]at s;cases s;omega
 rw[Yy];refine⟨h.pair,hu.pair,λy a z C g O A=>?_⟩;have k:=(r y a g O).2.2;have c:=(b z C g A).2.2;omega
def Bp.news{w base n c a fs xs}(h:Bp w base (.slice a n c) n fs xs):∀b,a=some b->∀j u,(Be fs xs)[j]?=some u->w.cell? (b.add j)=some u:=by
 intro b e j u hu;obtain⟨g,d,_,f,_⟩:=CC h.own hu;rw[e]at d;cases d;rw[YZ,Yt];exact f
def Bp.dG{w base n c a fs xs}(h:Bp w base (.slice a n c) n fs xs):a=none->n=0:=by
 intro e;subst e;have:=h.num;cases fs with
 |nil=>simpa using this
 |cons f r=>
  have b:=VD (f::r) xs h.len;have O:(Be (f::r) xs)[0]?=some ((Be (f::r) xs)[0]'(by rw[b];simp)):=yK _;obtain⟨g,d,_⟩:=CC h.own O;cases d
def Bp.one{w base n v fs xs}(h:Bp w base v n fs xs):∀u∈Be fs xs,u.oneCell'=true:=by
 intro u hu;unfold Be at hu;obtain⟨p,b,hu⟩:=Yk.1 hu;obtain⟨i,f,d⟩:=Wt b;have O:(fs.zip xs)[i]?=some p:=by rw[yK f,d]
 obtain⟨j,g⟩:=WG.1 O;obtain⟨⟨a,c,e⟩,_⟩:=h.each i _ _ j g;rw[e]at hu;exact OP _ _ _ _ u hu
def BC.take{w a fs}(h:BC w a fs)(k):BC w a (fs.take k):=λi f b=>by
 rw[YU]at b;split at b
 .exact h i f b
 cases b
def BC.drop{w b o fs}(h:BC w (some ⟨b,o,none⟩) fs)(k):BC w (some ⟨b,o+k*3,none⟩) (fs.drop k):=λi f a=>by
 rw[WA]at a;obtain⟨O,o',d,j,c,g⟩:=h _ f a;cases d;have e:o+k*3+i*3=o+(k+i)*3:=qd;exact⟨b,o+k*3,rfl,by rw[e];exact j,by rw[e];exact c,by rw[e];exact g⟩
def lp(a c fs nx cp sg w)(hv:BC w a fs)(hl:fs.length<=1048576)(j:∀f∈fs,f.ad.length<=1048576) :
  Ca 217 #[.agg #[.slice a fs.length c,I6 nx,I6 cp,.bool sg]] w λe w'=>
   (∃b i xs,e=.returned (.agg #[.slice b fs.length i,I6 nx,I6 cp,.bool sg])/\Bp w' w.heap.size (.slice b fs.length i) fs.length fs xs)/\Bw w w':=by
 have o:w.heap.size<w.heap.size+1+1:=qd;go_enter func217,ntmps217;go_wp2_with (go_at_call 258;refine(mE a c fs _ (hv.J Ax) hl j).ac ?_;rintro e k ⟨⟨d,g,xs,rfl,Y⟩,O⟩;obtain⟨l,n⟩:=Ah O);refine bodyPost_ret (v:=.agg #[.slice d fs.length g,I6 nx,I6 cp,.bool sg]) (by simp[results,results217,go_sem,l]) rfl ⟨⟨d,g,xs,rfl,?_⟩,?_⟩
 .exact(((((Y.set qg _).set qe _).set qe _).set qe _).set qe _).lower qg
 have m:Bw w k:=Ax.aj O;exact((((m.setCell qe _).setCell qe _).setCell qe _).setCell qe _).setCell qe _
def MW(a c fs nx cp sg code tag w)(hv:BC w a fs)(hl:fs.length<=1048576)(j:∀f∈fs,f.ad.length<=1048576) :
  Ca 216 #[.agg #[.slice a fs.length c,I6 nx,I6 cp,.bool sg],I6 code,I6 tag] w λe w'=>
   (∃b i xs,e=.returned (C6.val ⟨fs,nx,cp,sg,code,tag⟩ b i)/\Bp w' w.heap.size (.slice b fs.length i) fs.length fs xs)/\Bw w w':=by
 have m:w.heap.size<w.heap.size+1+1:=qd;go_enter func216,ntmps216;go_wp2_with (go_at_call 217;refine(lp a c fs nx cp sg _ (hv.J Ax) hl j).ac ?_;rintro e w1 ⟨⟨d,g,xs,rfl,Y⟩,O⟩;obtain⟨k,l⟩:=Ah O);refine bodyPost_ret (v:=C6.val ⟨fs,nx,cp,sg,code,tag⟩ d g) (by simp[results,results216,go_sem,k,C6.val]) rfl ⟨⟨d,g,xs,rfl,?_⟩,?_⟩
 .exact((((((Y.set qe _).set qe _).set qe _).set qe _).set qe _).set qe _).lower qg
 exact X0
def t8{B W a}(c:Below B W a):(∀b o,b<B->a.cell? ⟨b,o,none⟩=W.cell? ⟨b,o,none⟩)/\(∀b o,b<B->a.frozen? ⟨b,o,none⟩=W.frozen? ⟨b,o,none⟩):=
 ⟨λb o h=>c.cell (p:=⟨b,o,none⟩) h,λb o h=>c.frozen (p:=⟨b,o,none⟩) h⟩
def mF(n a c fs w)(g:fs.length=n)(hv:BC w a fs)(hl:n<=1048576)(i:∀f∈fs,f.ad.length<=1048576) :
  Ca 258 #[.slice a n c] w λe w'=>
   (∃b d xs,e=.returned (.slice b n d)/\Bp w' w.heap.size (.slice b n d) n fs xs)/\Bw w w':=by
 subst g;exact mE a c fs w hv hl i
def lX(a c fs nx cp sg i w)(hv:BC w a fs)(hc:fs.length<=c)(hl:fs.length<=1048576)(H:∀f∈fs,f.ad.length<=1048576)(A:i<fs.length) :
  Ca 219 #[.agg #[.slice a fs.length c,I6 nx,I6 cp,.bool sg],I6 i] w λe w'=>
   (∃I R xs,e=.returned (.agg #[.slice I (fs.eraseIdx i).length R,I6 nx,I6 cp,.bool sg])/\Bp w' w.heap.size (.slice I (fs.eraseIdx i).length R) (fs.eraseIdx i).length (fs.eraseIdx i) xs)/\Bw w w':=by
 have aO:w.heap.size<w.heap.size+1+1:=qd;obtain⟨f0,aH⟩:=AJ A;obtain⟨b,o,rfl,_⟩:=hv i f0 aH;have aF:=λo' ay=>(hv.J (LC o' ay)).take i;have q:(fs.take i).length=i:=by simp;omega
 go_enter func219,ntmps219;go_wp2_with fail;refine(mF i _ c (fs.take i) _ q (aF _ _) qd (λf l=>H f (Wa l))).ac ?_;rintro e k ⟨⟨a1,c1,C,rfl,y⟩,p⟩;obtain⟨az,aP⟩:=Ah p;have K:Bw w k:=Ax.aj p;have Z:=(hv.J K).drop (i+1);have m:=Aa y;clear y;have M:w.heap.size+1+1<=k.heap.size:=by have:=p.size;simpa using this
 have T:(fs.drop (i+1)).length=fs.length-(i+1):=qe;have aG:∀f∈fs.drop (i+1),f.ad.length<=1048576:=λf l=>H f (List.mem_of_mem_drop l);have x:fs.take i++fs.drop (i+1)=fs.eraseIdx i:=(List.eraseIdx_eq_take_drop_succ fs i).ai;have d:i+(fs.length-(i+1))=(fs.eraseIdx i).length:=by rw[KT,if_pos A];omega
 obtain⟨HE,G⟩:=Ak x d;clear x d;go_wp2_with fail
 all_goals
  refine(mF (fs.length-(i+1)) _ _ (fs.drop (i+1)) k T (by first|exact Z|(have:fs.drop (i+1)=[]:=yD qd;rw[this];intro i f l;simp at l)) qd aG).ac ?_;rintro e u ⟨⟨a2,W,E,rfl,B⟩,Y⟩;obtain⟨aD,aN⟩:=Ah Y;have L:=m.o.J Y;have t:Bw w u:=K.aj Y;obtain⟨O,n⟩:=Ak B L;have aM:w.heap.size<k.heap.size:=qd;have aB:w.heap.size+1<k.heap.size:=qd;have aA:w.heap.size+1+1<=u.heap.size:=yi M Y.size;have HR:=Aa (λg(U:Pc (.slice a1 i c1) C g)=>(m.o.range U).2);clear B L m;go_wp2_with (at_builtin;refine EU qi (.tmp 11) (.tmp 17) 25 qi (w.heap.size+1+1) 145 _ 3 48 underlying25 Oe qi qd _ i _ qi (DT n.o.own qe) a2 (fs.length-(i+1)) W qi (Be (fs.drop (i+1)) E) (by rw[VD _ _ O.o.len,T]) O.o.dG O.o.news O.o.one qm qd qd ?_;intro N z s aE D aI;have r:Below (w.heap.size+1+1) u s:=Aj.grown D.o aA (λj hj=>by have:=(n.o.own.lt j hj).1;simpa using this);obtain⟨aC,aK⟩:=t8 r);have hS:=(n.o.lower (base':=w.heap.size+1+1) qe).eh HR.o O.o M aE.o D.o aI.o;rw[HE.o,G.o]at hS;have aL:w.heap.size<s.heap.size:=by have:=r.size;omega
  refine bodyPost_ret (v:=.agg #[.slice N (fs.eraseIdx i).length z,I6 nx,I6 cp,.bool sg]) (by simp[results,results219,go_sem,az,aD,aC,aB,G.o]) rfl ⟨⟨N,z,C++E,rfl,?_⟩,?_⟩
  .exact(((((hS.set qg _).set qe _).set qe _).set qe _).set qe _).lower qd
  have hB:Bw w s:=t.j (r.ac qd);exact((((hB.setCell qe _).setCell qe _).setCell qe _).setCell qe _).setCell qe _
end
section
open Go.Maps
attribute [local go_sem ↓] wp_at_zero wp_at_succ
def Nj{w:World}{b r t}(h:w.heap[b]?=some (.cells r t (0,0)))(f:r.size=6):∃x0 x1 e Y O d,At w b 0 x0/\At w b 1 x1/\At w b 2 e/\At w b 3 Y/\At w b 4 O/\At w b 5 d /\
  w.frozen? ⟨b,0,none⟩=false/\w.frozen? ⟨b,1,none⟩=false/\w.frozen? ⟨b,2,none⟩=false/\w.frozen? ⟨b,3,none⟩=false/\w.frozen? ⟨b,4,none⟩=false/\w.frozen? ⟨b,5,none⟩=false:=by
 have a:∀j(hj:j<6),At w b j (r[j]'(by omega)):=λj hj=>by simp[World.cell?,h,show j<r.size by omega]
 have c:∀j,w.frozen? ⟨b,j,none⟩=false:=λj=>by simp[World.frozen?,h]
 exact⟨_,_,_,_,_,_,a 0 qd,a 1 qd,a 2 qd,a 3 qd,a 4 qd,a 5 qd,c _,c _,c _,c _,c _,c _⟩
def zaL{w:World}{b o x}(h:w.cell? ⟨b,o,none⟩=some x){q}(c:b≠q.block)(u):(w.setCell q u).cell? ⟨b,o,none⟩=some x:=by
 rw[<-h];exact y8 (a:=⟨b,o,none⟩) (Yb _ _ _ _ c)
def zcE{w:World}{p x}(h:w.cell? p=some x):w.drew.cell? p=some x:=h
def C6.cells(r:C6)(a:Option Addr)(c:Nat):List Value:=[.slice a r.fs.length c,.int .i64 r.nx,.int .i64 r.cp,.bool r.sg,.int .i64 r.code,.int .i64 r.tag]
def C6.one(r:C6)(a c):∀v∈r.cells a c,v.oneCell'=true:=by
 intro v hv;simp only[C6.cells,yO,YI,or_false]at hv;rcases hv with rfl|rfl|rfl|rfl|rfl|rfl<;>rfl
def GT:(prog.info? 87).map (·.size)=some 6:=qf
def C6.load{w b}{r:C6}{a c d}(h:w.heap[b]?=some (.cells (r.cells a c).toArray 87 d)):(loadVar 87 ⟨b,0,none⟩).run prog w=.ok (r.val a c) w:=
 run_loadVar_mid (P:=prog) w b 0 87 (r.cells a c) _ (L9 h) underlying87 rfl GT
def zmH(a c fs nx cp sg G tag sa n sc w)(hv:BC w a fs)(hc:fs.length<=c)(hl:fs.length<=1048576)(z:∀f∈fs,AV f)(x:∀f∈fs,Cq f)(Z:(Lit.int .i64 tag).wf=true) :
  Ca 158 #[.agg #[.slice a fs.length c,.int .i64 nx,.int .i64 cp,.bool sg],.agg #[.string G,.int .i64 tag,.slice sa n sc]] w λe w'=>
   (∃a' c' xs,e=.returned ((CV fs nx cp sg tag).val a' c')/\Bp w' w.heap.size (.slice a' (CV fs nx cp sg tag).fs.length c') (CV fs nx cp sg tag).fs.length (CV fs nx cp sg tag).fs xs)/\Bw w w':=by
 have u:∀f∈fs,f.ad.length<=1048576:=λf hf=>(z f hf).2.1;cases y:Cg fs nx cp sg
 .rw[jB y];go_enter func158,ntmps158;go_wp2_with (go_at_call 213;refine(JZ a c fs nx cp sg _ (hv.J Ba) hl z x).an λb Y=>?_;obtain⟨O,B⟩:=Ah Y);refine bodyPost_ret (v:=C6.bad.val none 0) (by simp[results,results158,go_sem,O,C6.val,C6.bad]) rfl ⟨⟨none,0,[],rfl,Bp.nil _ _⟩,?_⟩;have hB:Bw w b:=Ba.aj Y;exact nS
 have aB:=Qi y;cases t:AD tag fs with
 |none=>
  rw[Sv y t];go_enter func158,ntmps158;go_wp2_with (go_at_call 213;refine(JZ a c fs nx cp sg _ (hv.J Ba) hl z x).an λb Y=>?_;obtain⟨O,B⟩:=Ah Y);have m:Bw w b:=Ba.aj Y;have R:w.heap.size+1+1+1<=b.heap.size:=by have:=Y.size;simpa using this
  have q0:b.cell? ⟨w.heap.size,0,none⟩=some (.slice a fs.length c):=by rw[O _ _ qg];simp[go_sem]
  have q1:b.cell? ⟨w.heap.size,1,none⟩=some (.int .i64 nx):=by rw[O _ _ qg];simp[go_sem]
  have q2:b.cell? ⟨w.heap.size,2,none⟩=some (.int .i64 cp):=by rw[O _ _ qg];simp[go_sem]
  have q3:b.cell? ⟨w.heap.size,3,none⟩=some (.bool sg):=by rw[O _ _ qg];simp[go_sem]
  have q4:b.cell? ⟨w.heap.size+1,1,none⟩=some (.int .i64 tag):=by rw[O _ _ qe];simp[go_sem]
  have U:∃r:Array Value,b.heap[w.heap.size+1+1]?=some (.cells r 87 (0,0))/\r.size=6:=⟨_,(Y.block _ qe).j (Eu _ _ _ qe),rfl⟩
  clear O B Y;have T:=hv.J m
  go_region_held3 (λw'=>w'.cell? ⟨w.heap.size,0,none⟩=some (.slice a fs.length c)/\w'.cell? ⟨w.heap.size,1,none⟩=some (.int .i64 nx)/\w'.cell? ⟨w.heap.size,2,none⟩=some (.int .i64 cp)/\w'.cell? ⟨w.heap.size,3,none⟩=some (.bool sg)/\w'.cell? ⟨w.heap.size+1,1,none⟩=some (.int .i64 tag))
   ((go_split_ands;refine⟨?_,?_,?_,?_,?_⟩<;>first|assumption|exact zab l qj)) (first|(go_at_call 96;refine(Sz a c fs nx cp sg _ (T.J ?_) hl aB x).ac ?_;exact Aj.drew;rintro e k ⟨E,D,rfl,M,L,l⟩;have C:(Instr.lookup 172 (.map (some E)) (.int .i64 tag) true).run prog k=.ok (.tuple #[.int .i64 0,.bool false]) k:=(by have:=RW M L Z;rw[t]at this;exact this)))
  clear C;have d:Bw w k:=m.drew.j (l.ac m.size);have I:=hv.J d;have aE:w.heap.size+1+1+1<=k.heap.size:=yi R l.size;obtain⟨r0,K,H⟩:=U;go_wp2_with (first|(go_at_call 216;refine(MW a c fs nx cp sg 5 0 k I hl u).ac ?_;rintro e w3 ⟨⟨s,p,N,rfl,A⟩,q⟩)|(refine EH qi 87 (.tmp 4) (.tmp 22) qi (w.heap.size+1+1) (C6.cells ⟨fs,nx,cp,sg,5,0⟩ s p) qi qi r0 87 ((q.block _ qd).j ((l.block _ (by show _<b.heap.size;omega)).j K)) H GT (C6.one _ _ _) ?_;intro w4 aC W))
  go_frame
  refine bodyPost_ret (v:=C6.val ⟨fs,nx,cp,sg,5,0⟩ s p) (by simp[results,results158,asAddr,C6.load aC.o]) rfl ⟨⟨s,p,N,rfl,?_⟩,?_⟩
  .exact(A.kept (λg hg=>W.o.block g (by have:=(A.range hg).1;omega))).lower d.size
  .exact(d.aj q).j (W.o.J qd)
 |some i=>
  rw[Ss y t];have aD:=Ou t;go_enter func158,ntmps158;go_wp2_with (go_at_call 213;refine(JZ a c fs nx cp sg _ (hv.J Ba) hl z x).an λb Y=>?_;obtain⟨O,B⟩:=Ah Y);have m:Bw w b:=Ba.aj Y;have R:w.heap.size+1+1+1<=b.heap.size:=by have:=Y.size;simpa using this
  have q0:b.cell? ⟨w.heap.size,0,none⟩=some (.slice a fs.length c):=by rw[O _ _ qg];simp[go_sem]
  have q1:b.cell? ⟨w.heap.size,1,none⟩=some (.int .i64 nx):=by rw[O _ _ qg];simp[go_sem]
  have q2:b.cell? ⟨w.heap.size,2,none⟩=some (.int .i64 cp):=by rw[O _ _ qg];simp[go_sem]
  have q3:b.cell? ⟨w.heap.size,3,none⟩=some (.bool sg):=by rw[O _ _ qg];simp[go_sem]
  have q4:b.cell? ⟨w.heap.size+1,1,none⟩=some (.int .i64 tag):=by rw[O _ _ qe];simp[go_sem]
  have U:∃r:Array Value,b.heap[w.heap.size+1+1]?=some (.cells r 87 (0,0))/\r.size=6:=⟨_,(Y.block _ qe).j (Eu _ _ _ qe),rfl⟩
  clear O B Y;have T:=hv.J m
  go_region_held3 (λw'=>w'.cell? ⟨w.heap.size,0,none⟩=some (.slice a fs.length c)/\w'.cell? ⟨w.heap.size,1,none⟩=some (.int .i64 nx)/\w'.cell? ⟨w.heap.size,2,none⟩=some (.int .i64 cp)/\w'.cell? ⟨w.heap.size,3,none⟩=some (.bool sg)/\w'.cell? ⟨w.heap.size+1,1,none⟩=some (.int .i64 tag))
   ((go_split_ands;refine⟨?_,?_,?_,?_,?_⟩<;>first|assumption|exact zab l qj)) (first|(go_at_call 96;refine(Sz a c fs nx cp sg _ (T.J ?_) hl aB x).ac ?_;exact Aj.drew;rintro e k ⟨E,D,rfl,M,L,l⟩;have C:(Instr.lookup 172 (.map (some E)) (.int .i64 tag) true).run prog k=.ok (.tuple #[.int .i64 i,.bool true]) k:=(by have:=RW M L Z;rw[t]at this;exact this)))
  clear C;have d:Bw w k:=m.drew.j (l.ac m.size);have I:=hv.J d;have aE:w.heap.size+1+1+1<=k.heap.size:=yi R l.size;obtain⟨r0,K,H⟩:=U;go_split_ands;go_wp2_with fail
  go_region_held3 (λw'=>w'.cell? ⟨w.heap.size,0,none⟩=some (.slice a fs.length c)/\w'.cell? ⟨w.heap.size,1,none⟩=some (.int .i64 nx)/\w'.cell? ⟨w.heap.size,2,none⟩=some (.int .i64 cp)/\w'.cell? ⟨w.heap.size,3,none⟩=some (.bool sg)/\w'.cell? ⟨w.heap.size+1,1,none⟩=some (.int .i64 tag))
   ((go_split_ands;refine⟨?_,?_,?_,?_,?_⟩<;>first|((with_reducible refine zaL (zaL (zaL (zaL (zaL (zaL ?_ ?_ _) ?_ _) ?_ _) ?_ _) ?_ _) ?_ _)<;>first|with_reducible assumption|(dsimp only;omega))|with_reducible exact zab q qj|with_reducible exact zcE qj)) ((go_at_call 219;refine(lX a c fs nx cp sg i _ (I.J ?_) hc hl u aD).ac ?_;exact Aj.drew;rintro e w3 ⟨⟨s,p,N,rfl,A⟩,q⟩;obtain⟨x0,x1,x2,x3,x4,x5,y0,y1,y2,y3,y4,y5,z0,z1,z2,z3,z4,z5⟩:=Nj ((q.block (w.heap.size+1+1) (by show _<k.heap.size;omega)).j ((l.block _ (by show _<b.heap.size;omega)).j K)) H))
  go_wp2;refine bodyPost_ret (v:=C6.val ⟨fs.eraseIdx i,nx,cp,sg,0,tag⟩ s p) (by simp[results,results158,go_sem,C6.val, *]) rfl ⟨⟨s,p,N,rfl,?_⟩,?_⟩
  .exact((((((A.set qg _).set qg _).set qg _).set qg _).set qg _).set qg _).lower d.size
  exact((((((d.drew.j (q.ac d.size)).setCell qg _).setCell qg _).setCell qg _).setCell qg _).setCell qg _).setCell qg _
end
end Go.Proofs.YtikojfajahnhgaaGreat
