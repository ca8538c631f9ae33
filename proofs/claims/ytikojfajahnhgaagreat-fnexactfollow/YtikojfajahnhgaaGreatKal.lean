import Derived.Test.YtikojfajahnhgaaGreatKak
import Derived.Test.YtikojfajahnhgaaGreatKaj
set_option linter.all false
set_option maxHeartbeats 12800000
set_option maxRecDepth 100000
namespace Go.Proofs.YtikojfajahnhgaaGreat
attribute [local simp] At I6 Pn mzI
attribute [local go_sem] At I6 Pn
open Go.RowKit Go.Proofs.Tryz
attribute [local go_sem ↓] wp_at_zero wp_at_succ
structure Vr where
 name:ByteArray
 fact:Nat
 slot:Nat
def Hz(v:Vr):List Value:=[.string v.name,.int .i64 (v.fact:Int),.int .i64 (v.slot:Int)]
def Ji(w:World)(a:Option Addr)(vs:List Vr):Prop:=
 ∀(i:Nat)(v:Vr),vs[i]?=some v->∃b o,a=some ⟨b,o,none⟩/\w.cell? ⟨b,o+i*3,none⟩=some (.string v.name)/\w.cell? ⟨b,o+i*3+1,none⟩=some (.int .i64 (v.fact:Int))/\w.cell? ⟨b,o+i*3+2,none⟩=some (.int .i64 (v.slot:Int))
def Ji.J{w w' a vs}(h:Ji w a vs)(c:Bw w w'):Ji w' a vs:=by
 intro i v d;obtain⟨b,o,e,O,g,f⟩:=h i v d;exact⟨b,o,e,zab c O,zab c g,zab c f⟩
def BA:List Vr->ByteArray->Option Vr
 |[],_=>none
 |v::r,s=>if v.name=s then some v else BA r s
def P7(v r s):BA (v::r) s=if v.name=s then some v else BA r s:=rfl
def Lo:Option Vr->Value
 |some v=>.tuple #[.agg #[.int .i64 (v.fact:Int),.int .i64 (v.slot:Int)],.bool true]
 |none=>.tuple #[.agg #[.int .i64 0,.int .i64 0],.bool false]
def jg(pb s a c vs w)(x:At w pb 1 (.slice a vs.length c))(hv:Ji w a vs)(hl:vs.length<=1048576) :
  Ca 206 #[Pn pb,.string s] w λe w'=>e=.returned (Lo (BA vs s))/\Bw w w':=by
 have D:=Aa hv;have T:=ES x;clear hv;go_enter func206,ntmps206;go_upto_region 1 with fail;refine Bt ?_;intro w0 u Y;obtain⟨y,E⟩:=Ak Y u;have q:=zab u x;have Z:w.heap.size<w0.heap.size:=As Y;clear u Y x;go_wp2_with fail;clear q
 go_loopw [13] (λiv wr=>∃(k:Nat),iv=I6 (k:Int)/\k<=vs.length/\BA vs s=BA (vs.drop k) s/\wr.heap[w.heap.size]?=some (.cells #[I6 0,I6 0] 275 (0,0))/\Bw w wr) (mz vs.length)
 case atStart=>exact⟨0,rfl,yA _,rfl,y.o,E.o⟩
 case round=>
  obtain⟨k,rfl,ar,A,p,B⟩:=hrel;obtain⟨t,d,O⟩:=AQ A p B;have G:w.heap.size<wr.heap.size:=As p;clear A p B y;by_cases H:k<vs.length
  .obtain⟨v,hv⟩:=AJ H;obtain⟨b,o,rfl,K,C,I⟩:=(D.o.J O.o) k v hv;have i:=Aa (show BA vs s=if v.name=s then some v else BA (vs.drop (k+1)) s by rw[t.o,Ck hv,P7]);have z0:(0:Int)<=(k:Int):=qd;have W:(k:Int)<(vs.length:Int):=qd;clear hv t;go_upto_region 4 with fail;refine Bt ?_;intro f l n;obtain⟨N,U,d2⟩:=Ao n;obtain⟨g,z⟩:=Ak ((l.block _ G).j d.o) (O.o.aj l);have M:wr.heap.size<f.heap.size:=As n;clear l n K C I d O
   cases e1:(v.name.toList==s.toList)
   .have HN:=Aa (show BA vs s=BA (vs.drop (k+1)) s by rw[EV]at e1;rw[i.o,if_neg (λh=>by subst h;simp at e1)]);clear i;go_wp2_with fail;go_roundw
    case rel=>exact⟨k+1,ql,qd,HN.o,g.o,z.o⟩
    case measure=>(simp;omega)
   have HN:=Aa (show BA vs s=some v by rw[EV]at e1;rw[i.o,if_pos QB]);have m:At f w.heap.size 0 (I6 0):=by simp[World.cell?,g.o]
   have r:At f w.heap.size 1 (I6 0):=by simp[World.cell?,g.o]
   have x0:f.frozen? ⟨w.heap.size,0,none⟩=false:=by simp[World.frozen?,g.o]
   have x1:f.frozen? ⟨w.heap.size,1,none⟩=false:=by simp[World.frozen?,g.o]
   clear i;go_wp2_with fail;refine bodyPost_ret (v:=Lo (some v)) (by simp[results,results206,go_sem,m,r,Lo]) rfl ⟨Nr,?_⟩;exact(z.o.setCell qe _).setCell qe _
  have L:k=vs.length:=qd;subst L;have HN:=Aa (show BA vs s=none by rw[t.o,yD AA];rfl);have R:¬(vs.length:Int)<(vs.length:Int):=qd;have m:At wr w.heap.size 0 (I6 0):=by simp[World.cell?,d.o]
  have r:At wr w.heap.size 1 (I6 0):=by simp[World.cell?,d.o]
  have x0:wr.frozen? ⟨w.heap.size,0,none⟩=false:=by simp[World.frozen?,d.o]
  have x1:wr.frozen? ⟨w.heap.size,1,none⟩=false:=by simp[World.frozen?,d.o]
  go_wp2_with fail;refine bodyPost_ret (v:=Lo none) (by simp[results,results206,go_sem,m,r,Lo]) rfl ⟨Nr,?_⟩;exact(O.o.setCell qe _).setCell qe _
def Co(vs:List Vr)(ts:List Tm)(i:Nat)(t:Tm):Option Jt:=
 match BA vs t.var with
 |none=>none
 |some v=>(match Ai ts i t.var with|none=>some ⟨i,BH t,v.fact,v.slot⟩|some _=>none)
def Ct(vs:List Vr)(ts:List Tm):Nat->List Jt
 |0=>[]
 |i+1=>Ct vs ts i++(match ts[i]? with|none=>[]|some t=>(Co vs ts i t).toList)
def zlS{vs ts i t}(h:ts[i]?=some t):Ct vs ts (i+1)=Ct vs ts i++(Co vs ts i t).toList:=by simp[Ct,h]
def Xj(vs ts):∀i,(Ct vs ts i).length<=i
 |0=>yX _
 |i+1=>by
  have a:=Xj vs ts i
  simp only[Ct,yR]
  cases ts[i]? with
  |none=>simp;omega
  |some t=>
   cases h:Co vs ts i t<;>simp[h]<;>omega
def sx:(prog.info? 277).map (λi=>(i.zero,i.size,i.bytes))=some (some (.agg #[I6 0,I6 0,I6 0,I6 0]),4,32):=qf
def r7(t):∀u∈IR t,u.oneCell'=true:=by
 intro u hu;simp[IR]at hu;rcases hu with rfl|rfl|rfl|rfl<;>rfl
def Jl{w w':World}{c b o}(h:w.grownBy w' c)(a:c≠some b)(hl:b<w.heap.size):w'.cell? ⟨b,o,none⟩=w.cell? ⟨b,o,none⟩:=by
 unfold World.cell?;rw[h.block b hl (λe=>a e.ai)]
def Gb{w:World}{b ty x0 x1 c Y O a}(h:w.heap[b]?=some (.cells #[x0,x1,c,Y,O,a] ty (0,0))):At w b 0 x0/\At w b 1 x1/\At w b 2 c/\At w b 3 Y/\At w b 4 O/\At w b 5 a:=by
 refine⟨?_,?_,?_,?_,?_,?_⟩<;>simp[World.cell?,h]
def Ay{w:World}{b ty x0 x1}(h:w.heap[b]?=some (.cells #[x0,x1] ty (0,0))):At w b 0 x0/\At w b 1 x1:=by
 refine⟨?_,?_⟩<;>simp[World.cell?,h]
def zkA(pb)(p:Pt)(aD az U vc vs){q}(w)(hp:w.cell? ⟨pb,1,none⟩=some (.slice U vs.length vc))(hv:Ji w U vs)(aJ:CJ q w aD p.aa)(aR:p.aa.length<=az)(hl:p.aa.length<=1048576)(aO:vs.length<=1048576) :
  Ca 150 #[.pointer (some ⟨pb,0,none⟩),.agg #[.bool p.neg,.string p.ak,.slice aD p.aa.length az]] w λe w'=>(∃a c,e=.returned (.slice a (Ct vs p.aa p.aa.length).length c)/\w'.ownsRow w.heap.size 277 4 (.slice a (Ct vs p.aa p.aa.length).length c) (Ct vs p.aa p.aa.length).length ((Ct vs p.aa p.aa.length).flatMap IR))/\Bw w w':=by
 obtain⟨HV,HT,aQ⟩:=AQ hv aJ hp;clear hv aJ hp;go_enter func150,ntmps150;go_upto_region 1 with fail;refine Bt ?_;intro w0 ay Z;obtain⟨b0,b1,b2⟩:=Ao Z;have H0:=Aa ay;have a4:=ay.size;have aV:w.heap.size<w0.heap.size:=As Z;clear ay Z;go_wp2_with fail
 go_loopw [13,5] (λiv tv wr=>∃(k:Nat)(a:Option Addr)(c:Nat),iv=.int .i64 (k:Int)/\k<=p.aa.length/\tv=.slice a (Ct vs p.aa k).length c/\wr.ownsRow w0.heap.size 277 4 (.slice a (Ct vs p.aa k).length c) (Ct vs p.aa k).length ((Ct vs p.aa k).flatMap IR)/\Bw w0 wr) (λiv _ _=>p.aa.length-(intOf iv).toNat)
 case atStart=>exact⟨0,none,0,rfl,yA _,rfl,y9 _ _ _ _,Aj⟩
 case round=>
  obtain⟨k,a,c,rfl,a0,rfl,aw,R⟩:=hrel;obtain⟨ROW,C,H⟩:=AQ aw R (H0.o.aj R);have a9:=R.size;have aX:=Xj vs p.aa k;clear aw R;by_cases hk:k<p.aa.length
  .obtain⟨t,L⟩:=AJ hk;obtain⟨mb,mo,rfl,_,c0,c1,c2,c3,c4,c5⟩:=(HT.o.J H.o).get L;obtain⟨W,aP⟩:=Ak (zlS (vs:=vs) L) L;have p0:=zab C.o b0;have p1:=zab C.o b1;have p2:=zab C.o b2;have z0:(0:Int)<=(k:Int):=qd;have z1:(k:Int)<(p.aa.length:Int):=qd;clear L;go_upto_region 5 with fail;refine Bt ?_;intro w2 r M;obtain⟨b,z⟩:∃b,b=wr.heap.size:=⟨_,rfl⟩
   rw[<-z]at M⊢;obtain⟨d0,d1,d2,d3,d4,d5⟩:=Gb M;obtain⟨R2,G,I⟩:=AQ (Bg ROW.o r) (C.o.aj r) (H.o.aj r);have s0:=zab r p0;have s1:=zab r p1;have s2:=zab r p2;have aU:=r.size;have a5:b<w2.heap.size:=As M;obtain⟨aB,n⟩:=Ak (λg(hg:(Value.slice a (Ct vs p.aa k).length c).ownBlock=some g)=>(show g<b by have:=(ROW.o.lt g hg).2;omega)) (jg pb t.var U vc vs w2 (zab I.o aQ.o) (HV.o.J I.o) aO);have aS:w0.heap.size<=b:=qd;clear r M c0 c1 c2 c3 c4 c5 p0 p1 p2 ROW C H z;cases d:BA vs t.var with
   |none=>
    have HN:=Aa (show Ct vs p.aa (k+1)=Ct vs p.aa k by rw[W.o];simp[Co,d]);rw[d]at n;unfold Lo at n;clear d;go_wp2_with fail;refine n.o.an λw3 Y=>?_;have A:=Aa Y;clear Y n;go_upto_region 6 with fail;refine Bt ?_;intro w4 O x;obtain⟨B,D⟩:=Ak (Bg (Bg R2.o A.o) O) ((G.o.aj A.o).j (O.ac (G.o.aj A.o).size));clear O x;go_wp2_with fail;go_roundw
    case rel=>exact⟨k+1,a,c,ql,qd,Nr,by rw[HN.o];exact B.o,D.o⟩
    case measure=>(simp[intOf];omega)
   |some v=>
    rw[d]at n;unfold Lo at n;go_wp2_with fail;refine n.o.an λw3 Y=>?_;obtain⟨A,R3,D3,W3⟩:=BE Y (Bg R2.o Y) (G.o.aj Y) (I.o.aj Y);have f0:=zab Y d0;have f1:=zab Y d1;have f2:=zab Y d2;have f3:=zab Y d3;have f4:=zab Y d4;have f5:=zab Y d5;have u0:=zab Y s0;have u1:=zab Y s1;have u2:=zab Y s2;have a7:=Y.size;clear Y n d0 d1 d2 d3 d4 d5 s0 s1 s2 R2 G I A;go_upto_region 6 with fail;refine Bt ?_;intro w4 O x;obtain⟨u,aC⟩:∃u,u=w3.heap.size:=⟨_,rfl⟩
    rw[<-aC]at x⊢;obtain⟨v0,v1⟩:=Ay x;obtain⟨B,D,W4⟩:=AQ (Bg R3.o O) (D3.o.aj O) (W3.o.aj O);have g0:=zab O f0;have g1:=zab O f1;have g2:=zab O f2;have g3:=zab O f3;have g4:=zab O f4;have g5:=zab O f5;have n0:=zab O u0;have n1:=zab O u1;have n2:=zab O u2;have a6:=O.size;have aY:u<w4.heap.size:=As x;have s:=Aa (j5 p _ az k t w4 (HT.o.J W4.o) aP.o hl aR);have aT:b<u:=qd;clear aC O x f0 f1 f2 f3 f4 f5 u0 u1 u2 R3 D3 W3;cases y:Ai p.aa k t.var with
    |some e0=>
     have HN:=Aa (show Ct vs p.aa (k+1)=Ct vs p.aa k by rw[W.o];simp[Co,d,y]);rw[y]at s;simp only[QX]at s;have aW:((e0:Int)==-1)=false:=qe;clear d y;go_wp2_with fail;refine s.o.an λE af=>?_;obtain⟨R5,T⟩:=Ak (Bg B.o af) (D.o.aj af);clear af s;go_wp2_with fail;go_roundw
     case rel=>exact⟨k+1,a,c,ql,qd,Nr,by rw[HN.o];exact R5.o,T.o⟩
     case measure=>(simp[intOf];omega)
    |none=>
     have HN:=Aa (show Ct vs p.aa (k+1)=Ct vs p.aa k++[⟨k,BH t,v.fact,v.slot⟩] by rw[W.o];simp[Co,d,y]);rw[y]at s;simp only[QX]at s;clear d y;go_wp2_with fail;refine s.o.an λE af=>?_;obtain⟨R5,T⟩:=Ak (Bg B.o af) (D.o.aj af);have x0:=zab af g0;have x1:=zab af g1;have x2:=zab af g2;have x3:=zab af g3;have x4:=zab af g4;have x5:=zab af g5;have y0:=zab af v0;have y1:=zab af v1;have aZ:=af.size;have aH:(Value.slice a (Ct vs p.aa k).length c).ownBlock≠some b:=λe=>by have:=aB.o _ e;omega
     have aG:(Value.slice a (Ct vs p.aa k).length c).ownBlock≠some u:=λe=>by have:=aB.o _ e;omega
     have aL:=Aa (λw'=>lf t w');clear af s g0 g1 g2 g3 g4 g5 v0 v1 n0 n1 n2 B D W4;go_wp2_with fail;refine wp_region_noPanic ?_;refine wp_region_held_drew (S:=(λw'=>w'.cell? ⟨b,0,none⟩=some (.int .i64 t.kind)/\w'.cell? ⟨b,1,none⟩=some (.int .i64 t.op)/\w'.cell? ⟨b,2,none⟩=some (.string t.var)/\w'.cell? ⟨b,3,none⟩=some (.int .i64 t.val.kind)/\w'.cell? ⟨b,4,none⟩=some (.int .i64 t.val.num)/\w'.cell? ⟨b,5,none⟩=some (.string t.val.av)/\w'.cell? ⟨u,0,none⟩=some (.int .i64 (v.fact:Int))/\w'.cell? ⟨u,1,none⟩=some (.int .i64 (v.slot:Int)))) qf ?_ (λhHeld=>?_)
     ·(try dsimp only);(go_split_ands;refine⟨?_,?_,?_,?_,?_,?_,?_,?_⟩<;>first|(simp[*];done))
     refine sr 0 3 ?_;refine sr 4 5 ?_;refine r1 3 λK f=>?_;go_simp;(go_at_call 208;refine(aL.o _).ac ?_;rintro e' w6 ⟨rfl,aE⟩);(try go_wp2_with fail);refine f.o _ _ (by(try dsimp only);(go_split_ands;refine⟨?_,?_,?_,?_,?_,?_,?_,?_⟩<;>first|exact zab aE qj)) λm=>?_;replace hHeld:=m;clear f K m;(try simp only[pA,pZ,pS,pN]);have B6:=Aa (show Bw E w6 from(Yw E.heap.size E).drew.j (aE.ac qe));obtain⟨R6,D6⟩:=Ak (Bg R5.o B6.o) (T.o.aj B6.o);have bc:=B6.o.size;have aI:=Aa (λo'=>Aj.alloc AA o':∀o',Bw w6 (w6.alloc o'));refine sr 5 6 ?_;refine r1 6 λK f=>?_;go_simp;refine f.o _ _ (by(try dsimp only);(go_split_ands;refine⟨?_,?_,?_,?_,?_,?_,?_,?_⟩<;>first|(simp[go_sem, *];done)|exact zab Af qj)) λm=>?_;replace hHeld:=m;clear f K m;(try simp only[pA,pZ,pS,pN]);refine r1 7 λK f=>?_;(refine IY qi (.tmp 32) (.tmp 38) 195 qi w0.heap.size 277 _ 4 32 underlying195 sx qi qd _ (Ct vs p.aa k).length _ qi (Bg R6.o (aI.o _)) (some ⟨_,0,none⟩) 1 1 qi (IR ⟨k,BH t,v.fact,v.slot⟩) qi (λe=>qp) (Et _ _ _ _ qe) (r7 _) qm qd qg ?_;intro a8 c8 w8 aF N aM);refine f.o _ _ (by(try dsimp only);(go_split_ands;refine⟨?_,?_,?_,?_,?_,?_,?_,?_⟩<;>first|exact(Jl N.o aH qg).j qj|exact(Jl N.o aG qg).j qj)) λm=>?_;replace hHeld:=m;clear f K m;(try simp only[pA,pZ,pS,pN]);refine sr 8 9 ?_;refine wpAnyH_done qf ?_ _;refine Yf ?_;obtain⟨R8,D8,aN⟩:=AQ (show w8.ownsRow w0.heap.size 277 4 (.slice a8 (Ct vs p.aa (k+1)).length c8) (Ct vs p.aa (k+1)).length ((Ct vs p.aa (k+1)).flatMap IR) by have:=aF.o;rw[HN.o];simpa using this) ((D6.o.j ((aI.o _).ac D6.o.size)).grown N.o qg (λg hg=>(R6.o.lt g hg).1)) (show(Ct vs p.aa (k+1)).length=(Ct vs p.aa k).length+1 by rw[HN.o];simp);clear aF N aM;go_wp2_with fail;go_roundw
     case rel=>exact⟨k+1,a8,c8,ql,qd,by rw[aN.o],R8.o,D8.o⟩
     case measure=>(simp[intOf];omega)
  have aK:k=p.aa.length:=qd;subst aK;have hy:¬(p.aa.length:Int)<(p.aa.length:Int):=qd;go_wp2_with fail;go_ret;exact⟨⟨a,c,rfl,DT ROW.o qd⟩,H.o⟩
end Go.Proofs.YtikojfajahnhgaaGreat
