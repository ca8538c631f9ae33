import Derived.Test.YtikojfajahnhgaaGreatKbi
import Derived.Test.YtikojfajahnhgaaGreatKaz
set_option linter.all false
set_option maxHeartbeats 12800000
set_option maxRecDepth 100000
namespace Go.Proofs.YtikojfajahnhgaaGreat
attribute [local simp] At I6 Pn mzI
attribute [local go_sem] At I6 Pn
open Go.RowKit Go.Proofs.Tryz
def JA(M:List GI):Prop:=∀i x,M[i]?=some x->Pg i x.ru /\ -9223372036854775808<=x.W/\x.W<=9223372036854775807
def JA.snoc{M x}(h:JA M)(d:Pg M.length x.ru)(c:-9223372036854775808<=x.W/\x.W<=9223372036854775807):JA (M++[x]):=by
 intro i y a;by_cases b:i<M.length
 .rw[yr b]at a;exact h i y a
 have O:=(ye.1 a).1;simp at O;obtain rfl:i=M.length:=qd;simp at a;subst a;exact⟨d,c⟩
def IY.di{w base x}(h:IY w base x):(∃a n c,x.pv=.slice a n c)/\(∃a n c,x.ev=.slice a n c)/\∃a n c,x.av=.slice a n c:=by
 obtain⟨⟨a,c,e,_⟩,⟨g,d,i,_⟩,O,f,b,_⟩:=h;exact⟨⟨a,_,c,e⟩,⟨g,_,d,i⟩,O,_,f,b⟩
section
attribute [local go_sem ↓] wp_at_zero wp_at_succ
def JM:(prog.info? 187).map (λi=>(i.zero,i.size,i.bytes))=some (some (.agg #[I6 0,I6 0,.string ⟨#[]⟩]),3,32):=qg
def FB(w:World)(fb B:Nat)(tag:Int)(cls:ByteArray)(a:Option Addr)(c:Nat)(vs:List V):Prop:=
 w.heap[fb]?=some (.cells #[.int .i64 tag,.string cls,.slice a vs.length c] 145 (0,0))/\w.ownsRow B 187 3 (.slice a vs.length c) vs.length (vs.flatMap V.cells)/\∀v∈vs,Gp v
section
variable {w w' : World} {fb B : Nat} {tag : Int} {cls : ByteArray} {a : Option Addr} {c : Nat} {vs : List V}
def FB.rs{g}(h:FB w fb B tag cls a c vs)(b:Rs g w w')(e:fb≠g)(d:g<B):FB w' fb B tag cls a c vs:=⟨Dd b h.1 e,JJ h.2.1 b d,h.2.2⟩
def FB.C(h:FB w fb B tag cls a c vs)(b:Bw w w'):FB w' fb B tag cls a c vs:=⟨(b.block fb (Ak h.1)).c h.1,AF h.2.1 b,h.2.2⟩
def FB.H{d}(h:FB w fb B tag cls a c vs)(b:Turned w w' d)(hd:d≠fb)(O:∀k,(Value.slice a vs.length c).ownBlock=some k->k≠d):FB w' fb B tag cls a c vs:=
 ⟨(b.block fb (KK hd)).c h.1,Bv h.2.1 (λk e=>b.block k (O k e)),h.2.2⟩
def FB.cells(h:FB w fb B tag cls a c vs):At w fb 0 (I6 tag)/\At w fb 1 (.string cls)/\At w fb 2 (.slice a vs.length c):=by
 refine⟨?_,?_,?_⟩<;>simp[World.cell?,h.1]
end
def RU{w wt s e d B g tag f a O c b vs v}(h:FB wt d B tag f a c vs)(hv:Gp v)(u:Rs g w wt)(p:Bw wt s)(D:e.ownsRow B 187 3 (.slice O (vs.length+1) b) (vs.length+1) (vs.flatMap V.cells++V.cells v))(q:s.grownBy e (Value.slice a vs.length c).ownBlock)(z:w.heap.size<=B)(A:w.heap.size<=d)(r:g<w.heap.size) :
  FB (e.setCell ⟨d,2,none⟩ (.slice O (vs.length+1) b)) d B tag f O b (vs++[v])/\Rs g w (e.setCell ⟨d,2,none⟩ (.slice O (vs.length+1) b)):=by
 have l:=h.C p;have n:=Ef l.1 q (λk m=>AO l.2.1 m) qh;have t:Rs g w e:=(u.C p).grown q (λk m=>yh z (l.2.1.lt k m).1) r;refine⟨⟨?_,?_,?_⟩,t.ac A r⟩
 .have:=Co (i:=2) n (.slice O (vs.length+1) b);simpa using this
 .have:=Hc (o:=2) (x:=.slice O (vs.length+1) b) D n qh;simpa using this
 intro x y;rcases yn.1 y with j|j
 .exact h.2.2 x j
 simp at j;exact j▸hv
def Tb{wt g O b B tag d a c vs}(h:FB wt b B tag d a c vs)(j:Bw wt g)(i:g.grownBy O (Value.slice a vs.length c).ownBlock) :
  At O b 2 (.slice a vs.length c)/\O.frozen? ⟨b,2,none⟩=false:=by
 have f:=h.C j;have e:=Ef f.1 i (λk l=>AO f.2.1 l) qh;exact⟨by simp[World.cell?,e],by simp[World.frozen?,e]⟩
def td{w:World}{base a d}{ts:List Tm}(h:w.ownsRow base 189 6 (.slice a ts.length d) ts.length (ts.flatMap Fu)){i t}(g:ts[i]?=some t) :
  ∃k,a=some ⟨k,0,none⟩/\base<=k/\k<w.heap.size/\At w k (i*6) (I6 t.u)/\At w k (i*6+1) (I6 t.op)/\At w k (i*6+2) (.string t.A)/\At w k (i*6+3) (I6 t.val.u)/\At w k (i*6+4) (I6 t.val.num)/\At w k (i*6+5) (.string t.val.J):=by
 have key:=λj u(hj:(Fu t)[j]?=some u)=>BM h (FK (cells:=Fu) (m:=6) (λ_=>rfl) ts i t j u g hj);obtain⟨k,rfl,f,O,_⟩:=key 0 _ rfl;obtain⟨B,n,_,r,_⟩:=key 1 _ rfl;obtain⟨z,s,_,q,_⟩:=key 2 _ rfl;obtain⟨x,b,_,e,_⟩:=key 3 _ rfl;obtain⟨v,l,_,c,_⟩:=key 4 _ rfl;obtain⟨y,p,_,o,_⟩:=key 5 _ rfl;cases n;cases s;cases b;cases l;cases p;exact⟨k,rfl,f,yO w ⟨k,_,none⟩ O,O,r,q,e,c,o⟩
def sJ{w:World}{base a c}{vs:List V}(h:w.ownsRow base 187 3 (.slice a vs.length c) vs.length (vs.flatMap V.cells)){i v}(d:vs[i]?=some v) :
  ∃k,a=some ⟨k,0,none⟩/\base<=k/\k<w.heap.size/\At w k (i*3) (I6 v.u)/\At w k (i*3+1) (I6 v.num)/\At w k (i*3+2) (.string v.J):=by
 have key:=λj u(hj:(V.cells v)[j]?=some u)=>BM h (FK (cells:=V.cells) (m:=3) (λ_=>rfl) vs i v j u d hj);obtain⟨k,rfl,b,O,_⟩:=key 0 _ rfl;obtain⟨o,e,_,g,_⟩:=key 1 _ rfl;obtain⟨n,l,_,f,_⟩:=key 2 _ rfl;cases e;cases l;exact⟨k,rfl,b,yO w ⟨k,_,none⟩ O,O,g,f⟩
def fV(tag:Int)(cls:ByteArray)(x:Value):Value:=.agg #[.int .i64 tag,.string cls,x]
def sU:(prog.info? 145).map (·.size)=some 3:=qg
def ox{P:Prop}(h:P:=by
 have ah:=Af (λo=>AF O.o.2.1 (af.o o));go_wp2_with (first|(at_builtin;refine CN (by rfl) (.tmp 55) (.tmp 57) 38 (by rfl) w.heap.size 187 _ 3 32 underlying38 JM (by rfl) (by omega) _ vs.length _ (by rfl) (ah.o _) (some ⟨_,0,none⟩) 1 1 (by rfl) (V.cells v1) (by rfl) (λe=>by cases e) (Cv _ _ _ _ (by simp)) (V.cells_one v1) (by unfold maxLen;omega) (by omega) (by simp;omega) ?_;intro a3 c3 w3 am ai aJ;obtain⟨k3,z3⟩:=Tb O.o (af.o _) ai.o)|fail);obtain⟨r1,r2⟩:=RU O.o aR ao.o (af.o _) am.o ai.o (yu _) (by omega) ax;go_roundw
 case rel=>exact⟨i+1,a3,c3,vs++[v1],by go_num,by omega,by simp[aD.o],r1,(yE _ _ _ _ (by simp)).c (Ef (t':=187) (((af.o _).block _ (by omega)).c aj.o) ai.o (λk hk=>AO (ah.o _) hk) (by decide)),r2⟩
 case measure=>(simp[intOf];omega)
 ):P:=h
def nW{P:Prop}(h:P:=by obtain⟨O,ao,aj⟩:=AA aq.o aL.o aA.o;obtain⟨q0,q1,q2⟩:=Iq (v:=v1) aB.o;obtain⟨d0,d1,d2⟩:=O.o.cells;have aG:w.heap.size+1+1<w2.heap.size:=Ak O.o.1;have aN:w1.heap.size<w2.heap.size:=yO w2 ⟨w1.heap.size,0,none⟩ q0;have af:=Er w2;exact ox):P:=h
def zof(g base x tag w)(h:DQ w g)(hx:Gb w base x) :
  Ca 87 #[.pointer (some ⟨g,0,none⟩),.agg #[.bool x.1.neg,.string x.1.z,x.2],.int .i64 tag] w λe w'=>∃sa sc vs,e=.returned (fV tag x.1.z (.slice sa vs.length sc))/\vs.length<=3/\w'.ownsRow w.heap.size 187 3 (.slice sa vs.length sc) vs.length ((vs:List V).flatMap V.cells)/\(∀v∈vs,Gp v)/\Rs g w w':=by
 obtain⟨⟨neg,s,ts⟩,xv⟩:=x;obtain⟨⟨ta,tc,a7⟩,m,aa,aP,aW⟩:=hx;dsimp only at a7 m aa aP aW⊢;subst a7;obtain⟨H,HT,bw,bn⟩:=Bn h m aW h;have ax:=h.lt;clear h m aW;obtain⟨a4,a5,a0⟩:=AA (λn f y=>(((yX _ _).alloc (yu _) n).alloc qe f).alloc qf y:∀n f y,Below w.heap.size w (((w.alloc n).alloc f).alloc y)) (λn f y=>((yX ((w.alloc n).alloc f).heap.size ((w.alloc n).alloc f)).alloc (yu _) y).block (w.heap.size+1) qe |>.c (show((w.alloc n).alloc f).heap[w.heap.size+1]?=some f from by have:=heap_alloc_new (w.alloc n) f;simpa using this)) (λn f y=>(show(((w.alloc n).alloc f).alloc y).heap[w.heap.size+1+1]?=some y from by have:=heap_alloc_new ((w.alloc n).alloc f) y;simpa using this));go_enter func87,ntmps87;go_wp2_with fail
 go_loopw [18] (λiv wr=>∃(i:Nat)(a:Option Addr)(c:Nat)(vs:List V),iv=.int .i64 (i:Int)/\i<=ts.length/\vs.length=i/\FB wr (w.heap.size+1+1) w.heap.size tag s a c vs/\wr.heap[w.heap.size+1]?=some (.cells #[.int .i64 0,.string ⟨#[]⟩,.slice none 0 0] 145 (0,0))/\Rs g w wr) (λiv _=>ts.length-(intOf iv).toNat)
 case atStart=>exact⟨0,none,0,[],rfl,qd,rfl,⟨a0.o _ _ _,yN _ _ _ _,λv hv=>by simp at hv⟩,a5.o _ _ _,Rs.of H.o (a4.o _ _ _)⟩
 case round=>
  obtain⟨i,a,c,vs,rfl,hi,bc,aY,bi,hR⟩:=hrel;have aD:=Af bc;have bA:vs.length<=3:=qd;clear bc;obtain⟨E,aQ,HR⟩:=AA aY bi hR;have ab:=hR.1.rest.size;have bE:w.heap.size+1+1<wr.heap.size:=Ak aY.1;clear aY bi hR a4 a5 a0 H;by_cases bp:i<ts.length
  .obtain⟨t,aZ⟩:∃t,ts[i]?=some t:=⟨ts[i],by simp[bp]⟩
   obtain⟨tk,rfl,bH,bB,c0,c1,c2,c3,c4,c5⟩:=td (uJ HT.o HR.o bn.o qh) aZ;have bk:Gp t.val:=(bw.o t (yd aZ)).2.1;have bt:(i:Int)<(ts.length:Int):=qd;have aO:=Er wr;have bf:=Af (λo=>HR.o.2.C (aO.o o));clear aZ;go_wp2_with fail;refine(QD g _ (bf.o _)).j ?_;rintro e w1 ⟨v1,aR,rfl,W⟩;obtain⟨aK,aX,a9,aF⟩:=Bn (Dd W (heap_alloc_new _ _) qd) ((HR.o.C (aO.o _)).c W) ((E.o.C (aO.o _)).rs W qd qd) (Dd W (((aO.o _).block _ qd).c aQ.o) qd);have ac:wr.heap.size<w1.heap.size:=Ak aK.o;obtain⟨d,L,t2,U,K,T⟩:=DI aK.o;have bg:=Er w1;obtain⟨bq,a8⟩:=Ah (λo=>aX.o.2.C (bg.o o)) (λk(hk:(Value.slice a vs.length c).ownBlock=some k)=>(E.o.2.1.lt k hk).2);clear W c0 c1 c2 c3 c4 c5 d L t2 U K T aO bf E HR aQ;unfold vV;go_upto_region 6 with fail;refine Be ?_;intro w0 M aI;obtain⟨R,D,B,I,Y⟩:=DE aI (a9.o.C M) (aX.o.C M) ((M.block _ (Ak aF.o)).c aF.o) ((M.block _ (Ak aK.o)).c aK.o);have bG:=M.size;obtain⟨d,L,t2,U,K,T⟩:=DI Y.o;clear M aI a9 aX aF aK bg bq;have bj:=Af (λk(hk:(Value.slice a vs.length c).ownBlock=some k)=>a8.o k hk);by_cases bd:t.u=1
   .have aV:¬t.u=2:=qd;rw[bd]at d;go_wp2_with fail;refine(Fc g w0 B.o.2).j ?_;rintro e w2 ⟨N,bl,rfl,b⟩;obtain⟨aB,aq,aL,aA⟩:=Bn (Dd b R.o qd) (D.o.rs b qd qd) (B.o.c b) (Dd b I.o qd);obtain⟨d,L,t2,U,K,T⟩:w2.cell? ⟨wr.heap.size,0,none⟩=some (.int .i64 t.u)/\w2.cell? ⟨wr.heap.size,1,none⟩=some (.int .i64 t.op)/\w2.cell? ⟨wr.heap.size,2,none⟩=some (.string t.A)/\w2.cell? ⟨wr.heap.size,3,none⟩=some (.int .i64 t.val.u)/\w2.cell? ⟨wr.heap.size,4,none⟩=some (.int .i64 t.val.num)/\w2.cell? ⟨wr.heap.size,5,none⟩=some (.string t.val.J):=DI (Dd b Y.o qd);have bm:=b.1.rest.size;clear b D R B I Y L t2;rw[bd]at d;have aU:=Af d;by_cases bv:N%4=0
    .have aS:¬(0:Int)<(N:Int)%4:=qd;exact nW
    have aS:(0:Int)<(N:Int)%4:=qd;go_wp2_with (first|(refine C7 qi 187 (.tmp 10) (.tmp 34) qi w1.heap.size (V.cells t.val) qi qi _ 187 aB.o qi MN (V.cells_one _) ?_;intro wt aH aw;have bu:wt.cell? ⟨wr.heap.size,0,none⟩=some (.int .i64 1):=pu;have O:=Af (aq.o.H aw.o qd (λk hk=>p_));have ao:=Af (aL.o.H aw.o qd ax);have aj:=Af ((aw.o.block _ qd).c aA.o);obtain⟨q0,q1,q2⟩:=Iq (v:=t.val) aH.o;obtain⟨d0,d1,d2⟩:=O.o.cells;have aG:w.heap.size+1+1<wt.heap.size:=Ak O.o.1;have aN:w1.heap.size<wt.heap.size:=yO wt ⟨w1.heap.size,0,none⟩ q0;have af:=Er wt;have ah:=Af (λo=>AF O.o.2.1 (af.o o));clear d U K T )|(at_builtin;refine CN qi (.tmp 55) (.tmp 57) 38 qi w.heap.size 187 _ 3 32 underlying38 JM qi qd _ vs.length _ qi (ah.o _) (some ⟨_,0,none⟩) 1 1 qi (V.cells t.val) qi (λe=>qo) (Cv _ _ _ _ qe) (V.cells_one t.val) qj qd qf ?_;intro a3 c3 w3 am ai aJ;obtain⟨k3,z3⟩:=Tb O.o (af.o _) ai.o)|fail);obtain⟨r1,r2⟩:=RU O.o bk ao.o (af.o _) am.o ai.o (yu _) qd ax;go_roundw
    case rel=>exact⟨i+1,a3,c3,vs++[t.val],qm,qd,by simp[aD.o],r1,(yE _ _ _ _ qe).c (Ef (t':=187) (((af.o _).block _ qd).c aj.o) ai.o (λk hk=>AO (ah.o _) hk) qh),r2⟩
    case measure=>(simp[intOf];omega)
   by_cases aV:t.u=2
   .rw[aV]at d;by_cases Z:vs.length=0
    .obtain rfl:vs=[]:=Yw Z;clear Z;obtain⟨d0,d1,d2⟩:=D.o.cells;obtain⟨O,ao,aj⟩:=AA D.o B.o I.o;obtain⟨q0,q1,q2⟩:=Iq (v:=v1) R.o;obtain⟨d0,d1,d2⟩:=O.o.cells;have aG:w.heap.size+1+1<w0.heap.size:=Ak O.o.1;have aN:w1.heap.size<w0.heap.size:=yO w0 ⟨w1.heap.size,0,none⟩ q0;have af:=Er w0;have ah:=Af (λo=>AF O.o.2.1 (af.o o));go_wp2_with (first|(at_builtin;refine CN qi (.tmp 55) (.tmp 57) 38 qi w.heap.size 187 _ 3 32 underlying38 JM qi qd _ ([]:List V).length _ qi (ah.o _) (some ⟨_,0,none⟩) 1 1 qi (V.cells v1) qi (λe=>qo) (Cv _ _ _ _ qe) (V.cells_one v1) qj qd qf ?_;intro a3 c3 w3 am ai aJ;obtain⟨k3,z3⟩:=Tb O.o (af.o _) ai.o)|fail);obtain⟨r1,r2⟩:=RU O.o aR ao.o (af.o _) am.o ai.o (yu _) qd ax;go_roundw
     case rel=>exact⟨i+1,a3,c3,([]:List V)++[v1],qm,qd,by simp[aD.o],r1,(yE _ _ _ _ qe).c (Ef (t':=187) (((af.o _).block _ qd).c aj.o) ai.o (λk hk=>AO (ah.o _) hk) qh),r2⟩
     case measure=>(simp[intOf];omega)
    have bz:(0:Int)<(vs.length:Int):=qd;obtain⟨d0,d1,d2⟩:=D.o.cells;go_wp2_with fail;refine(Fc g w0 B.o.2).j ?_;rintro e w2 ⟨N,bl,rfl,b⟩;obtain⟨aB,aq,aL,aA⟩:=Bn (Dd b R.o qd) (D.o.rs b qd qd) (B.o.c b) (Dd b I.o qd);obtain⟨d,L,t2,U,K,T⟩:w2.cell? ⟨wr.heap.size,0,none⟩=some (.int .i64 t.u)/\w2.cell? ⟨wr.heap.size,1,none⟩=some (.int .i64 t.op)/\w2.cell? ⟨wr.heap.size,2,none⟩=some (.string t.A)/\w2.cell? ⟨wr.heap.size,3,none⟩=some (.int .i64 t.val.u)/\w2.cell? ⟨wr.heap.size,4,none⟩=some (.int .i64 t.val.num)/\w2.cell? ⟨wr.heap.size,5,none⟩=some (.string t.val.J):=DI (Dd b Y.o qd);have bm:=b.1.rest.size;clear b D R B I Y L t2;rw[aV]at d;have aU:=Af d;clear d0 d1 d2;by_cases bv:N%2=0
    .obtain⟨G,bh⟩:∃v,vs[0]?=some v:=⟨vs[0]'(by omega),qe⟩
     have a6:Gp G:=aq.o.2.2 G (yd bh);obtain⟨e0,e1,e2⟩:=aq.o.cells;obtain⟨sk,br,bC,bD,s0,s1,s2⟩:=sJ aq.o.2.1 bh;subst br;simp only[TH,Yc]at s0 s1 s2;go_wp2_with (first|(refine C7 qi 187 (.tmp 10) (.tmp 53) qi w1.heap.size (V.cells G) qi qi _ 187 aB.o qi MN (V.cells_one _) ?_;intro wt aH aw;have bu:wt.cell? ⟨wr.heap.size,0,none⟩=some (.int .i64 2):=pu;have O:=Af (aq.o.H aw.o qd (λk hk=>p_));have ao:=Af (aL.o.H aw.o qd ax);have aj:=Af ((aw.o.block _ qd).c aA.o);obtain⟨q0,q1,q2⟩:=Iq (v:=G) aH.o;obtain⟨d0,d1,d2⟩:=O.o.cells;have aG:w.heap.size+1+1<wt.heap.size:=Ak O.o.1;have aN:w1.heap.size<wt.heap.size:=yO wt ⟨w1.heap.size,0,none⟩ q0;have af:=Er wt;have ah:=Af (λo=>AF O.o.2.1 (af.o o));clear d U K T e0 e1 e2 s0 s1 s2)|(at_builtin;refine CN qi (.tmp 55) (.tmp 57) 38 qi w.heap.size 187 _ 3 32 underlying38 JM qi qd _ vs.length _ qi (ah.o _) (some ⟨_,0,none⟩) 1 1 qi (V.cells G) qi (λe=>qo) (Cv _ _ _ _ qe) (V.cells_one G) qj qd qf ?_;intro a3 c3 w3 am ai aJ;obtain⟨k3,z3⟩:=Tb O.o (af.o _) ai.o)|fail);obtain⟨r1,r2⟩:=RU O.o a6 ao.o (af.o _) am.o ai.o (yu _) qd ax;go_roundw
     case rel=>exact⟨i+1,a3,c3,vs++[G],qm,qd,by simp[aD.o],r1,(yE _ _ _ _ qe).c (Ef (t':=187) (((af.o _).block _ qd).c aj.o) ai.o (λk hk=>AO (ah.o _) hk) qh),r2⟩
     case measure=>(simp[intOf];omega)
    have aS:¬(N:Int)%2=0:=qd;exact nW
   obtain⟨O,ao,aj⟩:=AA D.o B.o I.o;obtain⟨q0,q1,q2⟩:=Iq (v:=v1) R.o;obtain⟨d0,d1,d2⟩:=O.o.cells;have aG:w.heap.size+1+1<w0.heap.size:=Ak O.o.1;have aN:w1.heap.size<w0.heap.size:=yO w0 ⟨w1.heap.size,0,none⟩ q0;have af:=Er w0;exact ox
  have bF:i=ts.length:=qd;have bt:¬(i:Int)<(ts.length:Int):=qd;obtain⟨d0,d1,d2⟩:=E.o.cells;go_wp2_with (first|(refine C7 qi 145 (.tmp 6) (.tmp 61) qi (w.heap.size+1) [.int .i64 tag,.string s,.slice a vs.length c] qi qi _ 145 aQ.o qi sU (by intro u hu;simp at hu;rcases hu with rfl|rfl|rfl<;>rfl) ?_;intro w3 aT aP)|fail);have f0:w3.cell? ⟨w.heap.size+1,0,none⟩=some (.int .i64 tag):=by simp[World.cell?,aT.o]
  have f1:w3.cell? ⟨w.heap.size+1,1,none⟩=some (.string s):=by simp[World.cell?,aT.o]
  have f2:w3.cell? ⟨w.heap.size+1,2,none⟩=some (.slice a vs.length c):=by simp[World.cell?,aT.o]
  refine bodyPost_ret (v:=fV tag s (.slice a vs.length c)) (by simp[results,results87,go_sem,f0,f1,f2,fV]) rfl ⟨a,c,vs,rfl,qd,?_,(λp q r hh=>E.o.2.2 (p,q,r) hh),HR.o.H aP.o qd ax⟩;refine Bv E.o.2.1 (λk hk=>aP.o.block k (λe=>?_));obtain⟨cc,bo⟩:=AO E.o.2.1 hk;subst e;exact Cf bo aQ.o qh
def UU{v}(h:Gp v):DO v:=by
 obtain⟨e,⟨a,c⟩,b,d,_⟩:=h;exact⟨S1 a c,S1 b d,qj⟩
def UG:V:=(0,0,⟨#[]⟩)
def j5(n)(a:n=6∨n=7)(w:World):(w.alloc (.cells (madeCells #[I6 0,I6 0,.string ⟨#[]⟩] (n*3)) 187)).ownsRow w.heap.size 187 3 (.slice (some ⟨w.heap.size,0,none⟩) n n) n ((List.replicate n UG).flatMap V.cells):=by
 rcases a with rfl|rfl
 .exact⟨rfl,.inr ⟨w.heap.size,6,_,rfl,yu _,heap_alloc_new _ _,yu _,qh,by simp[madeCells],qg⟩⟩
 exact⟨rfl,.inr ⟨w.heap.size,7,_,rfl,yu _,heap_alloc_new _ _,yu _,qh,by simp[madeCells],qg⟩⟩
def Ro(g base:Nat)(a:Option Addr)(c:Nat)(vs:List V)(w:World)(e:Ending)(w':World):Prop:=
 ∃a' c' vs',e=.returned (.slice a' (List.length vs') c')/\vs'.length<=7/\(∀v∈vs',DO v)/\w'.ownsRow base 187 3 (.slice a' vs'.length c') vs'.length (vs'.flatMap V.cells)/\Qs g g (Value.slice a vs.length c).ownBlock w w'
def Qs.bv{g b o u v w}(h:Qs g b o u v)(d:v.grownBy w o)(j:∀k,o=some k->g<k)(O:g<u.heap.size):Qs g b o u w:=
 ⟨h.rest.grown d (yk _) (λ_ _=>yk _),λk a l i f=>(d.block k (yg a h.rest.size) (λe=>f e.y)).c (h.block k a l i f),h.bc.bW (An.grown d ZX (λk a=>by have:=j k a;omega))⟩
def zms(g base a c vs w)(h:DQ w g)(Y:g<base)(hbase:base<=w.heap.size)(aN:vs.length<=6)(M:∀v∈vs,DO v)(d:w.ownsRow base 187 3 (.slice a vs.length c) vs.length (vs.flatMap V.cells)) :
  Ca 88 #[.pointer (some ⟨g,0,none⟩),.slice a vs.length c] w (Ro g base a c vs w):=by
 obtain⟨HV,I,H⟩:=AA M d h;have E:=h.lt;clear h M d;have N:=mn (P:=prog) 38 187 _ 3 32 underlying38 JM 7 qd qd;have aI:=mn (P:=prog) 38 187 _ 3 32 underlying38 JM 6 qd qd;simp only[Int.cast_ofNat_Int]at N aI;go_enter func88,ntmps88;go_wp2_with fail;refine(Fc g w H.o).j ?_;rintro e t ⟨u,hu,rfl,A⟩;obtain⟨J,i⟩:=Ah (JJ I.o A Y) (Qs.of (b:=g) (o:=(Value.slice a vs.length c).ownBlock) A);have R:=A.1.rest.size;have z:=Er t;obtain⟨p,D⟩:=Ah (λo=>AF J.o (z.o o)) (λk(hk:(Value.slice a vs.length c).ownBlock=some k)=>(show g<k by have:=(I.o.lt k hk).1;omega));clear A H I;by_cases aB:u=255
 .have s:((u:Int)==255)=true:=by simp;omega
  have r:((u:Int)==254)=false:=by simp;omega
  have n:((u:Int)==253)=false:=by simp;omega
  have y:((u:Int)==252)=false:=by simp;omega
  have O:((u:Int)==251)=false:=by simp;omega
  have q:((u:Int)==250)=false:=by simp;omega
  clear aB;go_wp2_with fail;go_ret;exact⟨some ⟨t.heap.size,0,none⟩,7,List.replicate 7 UG,rfl,qe,qR,by simpa using CA (j5 7 qd t) qd,i.o.C (z.o _)⟩
 by_cases aH:u=254
 .have s:((u:Int)==255)=false:=by simp;omega
  have r:((u:Int)==254)=true:=by simp;omega
  have n:((u:Int)==253)=false:=by simp;omega
  have y:((u:Int)==252)=false:=by simp;omega
  have O:((u:Int)==251)=false:=by simp;omega
  have q:((u:Int)==250)=false:=by simp;omega
  clear aH;go_wp2_with (first|(at_builtin;refine CN qi (.tmp 14) (.tmp 16) 38 qi base 187 _ 3 32 underlying38 JM qi qd _ vs.length _ qi (p.o _) (some ⟨_,0,none⟩) 1 1 qi (V.cells (2,0,⟨#[]⟩)) qi (λe=>qo) (Cv _ _ _ _ qe) (V.cells_one _) qj qd qf ?_;intro m l K ao f G)|fail);go_ret;exact⟨m,l,vs++[(2,0,⟨#[]⟩)],qe,qf,qp,Ud,(i.o.C (z.o _)).bv f.o D.o E⟩
 by_cases aD:u=253
 .have s:((u:Int)==255)=false:=by simp;omega
  have r:((u:Int)==254)=false:=by simp;omega
  have n:((u:Int)==253)=true:=by simp;omega
  have y:((u:Int)==252)=false:=by simp;omega
  have O:((u:Int)==251)=false:=by simp;omega
  have q:((u:Int)==250)=false:=by simp;omega
  clear aD;go_wp2_with (first|(at_builtin;refine CN qi (.tmp 20) (.tmp 22) 38 qi base 187 _ 3 32 underlying38 JM qi qd _ vs.length _ qi (p.o _) (some ⟨_,0,none⟩) 1 1 qi (V.cells (1,0,⟨#[45,97]⟩)) qi (λe=>qo) (Cv _ _ _ _ qe) (V.cells_one _) qj qd qf ?_;intro m l K ao f G)|fail);go_ret;exact⟨m,l,vs++[(1,0,⟨#[45,97]⟩)],qe,qf,qp,Ud,(i.o.C (z.o _)).bv f.o D.o E⟩
 by_cases T:u=252
 .have s:((u:Int)==255)=false:=by simp;omega
  have r:((u:Int)==254)=false:=by simp;omega
  have n:((u:Int)==253)=false:=by simp;omega
  have y:((u:Int)==252)=true:=by simp;omega
  have O:((u:Int)==251)=false:=by simp;omega
  have q:((u:Int)==250)=false:=by simp;omega
  clear T;go_wp2_with (first|(at_builtin;refine CN qi (.tmp 26) (.tmp 28) 38 qi base 187 _ 3 32 underlying38 JM qi qd _ vs.length _ qi (p.o _) (some ⟨_,0,none⟩) 1 1 qi (V.cells (1,1,⟨#[97]⟩)) qi (λe=>qo) (Cv _ _ _ _ qe) (V.cells_one _) qj qd qf ?_;intro m l K ao f G)|fail);go_ret;exact⟨m,l,vs++[(1,1,⟨#[97]⟩)],qe,qf,qp,Ud,(i.o.C (z.o _)).bv f.o D.o E⟩
 by_cases aJ:u=251
 .have s:((u:Int)==255)=false:=by simp;omega
  have r:((u:Int)==254)=false:=by simp;omega
  have n:((u:Int)==253)=false:=by simp;omega
  have y:((u:Int)==252)=false:=by simp;omega
  have O:((u:Int)==251)=true:=by simp;omega
  have q:((u:Int)==250)=false:=by simp;omega
  clear aJ;go_wp2_with fail;go_ret;exact⟨some ⟨t.heap.size,0,none⟩,6,List.replicate 6 UG,rfl,qe,qR,by simpa using CA (j5 6 qd t) qd,i.o.C (z.o _)⟩
 by_cases U:u=250
 .have s:((u:Int)==255)=false:=by simp;omega
  have r:((u:Int)==254)=false:=by simp;omega
  have n:((u:Int)==253)=false:=by simp;omega
  have y:((u:Int)==252)=false:=by simp;omega
  have O:((u:Int)==251)=false:=by simp;omega
  have q:((u:Int)==250)=true:=by simp;omega
  clear U;go_wp2_with fail;refine(kh _ t).j ?_;rintro e w2 ⟨rfl,B⟩;obtain⟨Z,W⟩:=Ah (AF J.o B) (i.o.C B);have aM:=B.size;have L:=Er w2;clear B p;have p:=Af (λo=>AF Z.o (L.o o));unfold vV;go_wp2_with (first|(at_builtin;refine CN qi (.tmp 35) (.tmp 37) 38 qi base 187 _ 3 32 underlying38 JM qi qd _ vs.length _ qi (p.o _) (some ⟨_,0,none⟩) 1 1 qi (V.cells (1,0,⟨#[97,98,99,100,101,102,103,104,105,106,97,98,99,100,101,102,103,104,105,106]⟩)) qi (λe=>qo) (Cv _ _ _ _ qe) (V.cells_one _) qj qd qf ?_;intro m l K ao f G)|fail);go_ret;exact⟨m,l,vs++[(1,0,⟨#[97,98,99,100,101,102,103,104,105,106,97,98,99,100,101,102,103,104,105,106]⟩)],qe,qf,qp,Ud,(W.o.C (L.o _)).bv f.o D.o E⟩
 have s:((u:Int)==255)=false:=by simp;omega
 have r:((u:Int)==254)=false:=by simp;omega
 have n:((u:Int)==253)=false:=by simp;omega
 have y:((u:Int)==252)=false:=by simp;omega
 have O:((u:Int)==251)=false:=by simp;omega
 have q:((u:Int)==250)=false:=by simp;omega
 go_wp2_with fail;go_ret;exact⟨a,c,vs,rfl,qd,HV.o,J.o,i.o⟩
def uR{w base a c M}(h:RO w base a c M){i x}(f:M[i]?=some x) :
  ∃k,a=some ⟨k,0,none⟩/\k<w.heap.size/\At w k (i*5) (.string x.nm)/\At w k (i*5+1) (I6 x.W)/\At w k (i*5+2) x.pv/\At w k (i*5+3) x.ev/\At w k (i*5+4) x.av:=by
 have key:=λj u(hj:(Eb x)[j]?=some u)=>BM h.1 (FK (cells:=Eb) (m:=5) (λ_=>rfl) M i x j u f hj);obtain⟨k,rfl,_,O,_⟩:=key 0 _ rfl;obtain⟨t,l,_,o,_⟩:=key 1 _ rfl;obtain⟨s,p,_,n,_⟩:=key 2 _ rfl;obtain⟨r,b,_,e,_⟩:=key 3 _ rfl;obtain⟨q,g,_,d,_⟩:=key 4 _ rfl;cases l;cases p;cases b;cases g;exact⟨k,rfl,yO w ⟨k,_,none⟩ O,O,o,n,e,d⟩
def gi{w base a c L}(h:PO w base a c L){i x}(b:L[i]?=some x) :
  ∃k,a=some ⟨k,0,none⟩/\k<w.heap.size/\At w k (i*3) (.bool x.1.neg)/\At w k (i*3+1) (.string x.1.z)/\At w k (i*3+2) x.2:=by
 have key:=λj u(hj:(CW x)[j]?=some u)=>BM h.1 (FK (cells:=CW) (m:=3) (λ_=>rfl) L i x j u b hj);obtain⟨k,rfl,_,O,_⟩:=key 0 _ rfl;obtain⟨n,d,_,f,_⟩:=key 1 _ rfl;obtain⟨l,g,_,e,_⟩:=key 2 _ rfl;cases d;cases g;exact⟨k,rfl,yO w ⟨k,_,none⟩ O,O,f,e⟩
def PO.bt{base g w w' a c L}(h:PO w base a c L)(b:Rs g w w')(d:DQ w g):PO w' base a c L:=h.same (T:=[152,189]) (Bc.bt b d qh) qh qh
def JA.v{M}(h:JA M){i:Nat}{x}(c:M[i]?=some x):1<=x.v.length/\x.v.length<=6:=by
 obtain⟨⟨_,K,pos,hd⟩,_⟩:=h i x c;have e:=hd.dU.1;have b:=hd.count;have a:=hd.v;simp only[GI.ru,yt]at a;refine⟨?_,a⟩;cases d:x.v with
 |nil=>simp[GI.ru,d,Ad]at b;omega
 |cons y r=>simp
def vE(g w)(h:DQ w g):Ca 86 #[Pn g] w λe w'=>∃t:Bool,e=.returned (.bool t)/\Rs g w w':=by
 have H:=Af h;obtain⟨a,n,c,i,h1,d,f,b⟩:=h;have k:At w g 0 (.slice a n c):=T_;have j:At w g 1 (I6 (i:Int)):=T_;clear h1 b;go_enter func86,ntmps86;go_wp2;go_region;go_wp2;go_ret;exact⟨_,rfl,Rs.of H.o An.drew⟩
structure MC where
 u:Int
 tag:Int
 z:ByteArray
 sv:Value
 vs:List V
def CX(x:MC):List Value:=[.int .i64 x.u,.int .i64 x.tag,.string x.z,x.sv]
def LJ(w:World)(base:Nat)(x:MC):Prop:=(∃sa sc,x.sv=.slice sa x.vs.length sc)/\w.ownsRow base 187 3 x.sv x.vs.length (x.vs.flatMap V.cells)/\x.vs.length<=7/\(∀v∈x.vs,DO v)/\x.z.size<=20/\0<=x.tag/\x.tag<=26
def OO(w:World)(base:Nat)(a:Option Addr)(c:Nat)(N:List MC):Prop:=w.ownsRow base 40 4 (.slice a N.length c) N.length (N.flatMap CX)/\∀x∈N,LJ w base x
def OO.nil(w base):OO w base none 0 []:=⟨yN _ _ _ _,λx hx=>qB⟩
def OO.rs{w w' base g a c N}(h:OO w base a c N)(d:Rs g w w')(e:g<base):OO w' base a c N:=⟨JJ h.1 d e,λx b=>⟨(h.2 x b).1,JJ (h.2 x b).2.1 d e,(h.2 x b).2.2⟩⟩
def OB(w:World)(b:Nat)(x0 x1 x2 x3:Value):Prop:=w.heap[b]?=some (.cells #[x0,x1,x2,x3] 40 (0,0))
def OB.G{w b x0 x1 c a}(h:OB w b x0 x1 c a):(At w b 0 x0/\At w b 1 x1/\At w b 2 c/\At w b 3 a)/\(∀j,w.frozen? ⟨b,j,none⟩=false)/\b<w.heap.size:=by
 unfold OB at h;exact Zt
def OQ(g b ob m:Nat)(u w:World):Prop:=∃x:MC,Hid (OB w ob (.int .i64 x.u) (.int .i64 x.tag) (.string x.z) x.sv)/\Hid (LJ w b x)/\x.vs.length<=m/\Hid (Rs g u w)
def LJ.H{w w' b d x x0 x1 a i}(h:LJ w b x)(f:OB w d x0 x1 a i)(c:Turned w w' d):LJ w' b x:=⟨h.1,Bv h.2.1 (λk g=>c.block k (λe=>by
 obtain⟨cc,O⟩:=AO h.2.1 g;subst e;exact Cf f O qh)),h.2.2⟩
def iF:(prog.info? 40).map (λi=>(i.zero,i.size,i.bytes))=some (some (.agg #[I6 0,I6 0,.string ⟨#[]⟩,.slice none 0 0]),4,56):=qg
def Xn(g base x tag w)(h:DQ w g)(b:Gb w base x) :
  Ca 87 #[Pn g,.agg #[.bool x.1.neg,.string x.1.z,x.2],I6 tag] w λe w'=>∃sa a vs,e=.returned (.agg #[I6 tag,.string x.1.z,.slice sa (List.length vs) a])/\vs.length<=3/\w'.ownsRow w.heap.size 187 3 (.slice sa vs.length a) vs.length (vs.flatMap V.cells)/\(∀v∈vs,Gp v)/\Rs g w w':=zof g base x tag w h b
def SA{w:World}{b o d g f i v x0 x1 e}(h:w.cell? ⟨b,o,none⟩=some v)(a:b≠d):(((w.setCell ⟨d,g,none⟩ x0).setCell ⟨d,f,none⟩ x1).setCell ⟨d,i,none⟩ e).cell? ⟨b,o,none⟩=some v:=by
 have c:∀(u:World)(j:Nat)(x:Value),(u.setCell ⟨d,j,none⟩ x).cell? ⟨b,o,none⟩=u.cell? ⟨b,o,none⟩:=λu j x=>yR (w:=u) (yE u ⟨d,j,none⟩ x b a);rw[c,c,c];exact h
def zuE{w:World}{b o d k i l e v x0 x1 f g}(h:w.cell? ⟨b,o,none⟩=some v)(c:d≠b):((((w.setCell ⟨d,k,none⟩ x0).setCell ⟨d,i,none⟩ x1).setCell ⟨d,l,none⟩ f).setCell ⟨d,e,none⟩ g).cell? ⟨b,o,none⟩=some v:=by
 have a:∀(u:World)(j:Nat)(x:Value),(u.setCell ⟨d,j,none⟩ x).cell? ⟨b,o,none⟩=u.cell? ⟨b,o,none⟩:=λu j x=>yR (w:=u) (yE u ⟨d,j,none⟩ x b (KK c));rw[a,a,a,a];exact h
def Ga{w:World}{b ty x0 x1 a}(h:w.heap[b]?=some (.cells #[x0,x1,a] ty (0,0))):At w b 0 x0/\At w b 1 x1/\At w b 2 a:=by
 refine⟨?_,?_,?_⟩<;>simp[World.cell?,h]
def i5{w:World}{d B x0 x1 g tag b a c vs}(h:w.heap[d]?=some (.cells #[x0,x1,g] 145 (0,0)))(O:w.ownsRow B 187 3 (.slice a vs.length c) vs.length (vs.flatMap V.cells))(hv:∀v∈vs,Gp v) :
  FB (((w.setCell ⟨d,0,none⟩ (I6 tag)).setCell ⟨d,1,none⟩ (.string b)).setCell ⟨d,2,none⟩ (.slice a vs.length c)) d B tag b a c vs:=by
 have f:=Co (i:=0) h (I6 tag);have e:=Co (i:=1) f (.string b);have h3:=Co (i:=2) e (.slice a vs.length c);exact⟨Mt,Hc (Hc (Hc O h qh) f qh) e qh,hv⟩
abbrev PatS(w':World)(qb pk n pc:Nat)(f:Nat->MB):Prop:=w'.cell? ⟨qb,2,none⟩=some (.slice (some ⟨pk,0,none⟩) n pc)/\(∀j,j<n->w'.cell? ⟨pk,j*3,none⟩=some (.bool (f j).1.neg))/\(∀j,j<n->w'.cell? ⟨pk,j*3+1,none⟩=some (.string (f j).1.z))/\∀j,j<n->w'.cell? ⟨pk,j*3+2,none⟩=some (f j).2
def PatS.of{w base c a b L f}(l:At w c 2 (.slice (some ⟨a,0,none⟩) L.length b))(h:PO w base (some ⟨a,0,none⟩) b L)(g:∀j,j<L.length->L[j]?=some (f j)):PatS w c a L.length b f:=by
 have key:∀j,j<L.length->At w a (j*3) (.bool (f j).1.neg)/\At w a (j*3+1) (.string (f j).1.z)/\At w a (j*3+2) (f j).2:=by
  intro j hj;obtain⟨k,e,_,O,i,d⟩:=gi h (g j hj);cases e;exact⟨O,i,d⟩
 exact⟨l,λj hj=>(key j hj).1,λj hj=>(key j hj).2.1,λj hj=>(key j hj).2.2⟩
def PatS.C{w w' b d n c f}(h:PatS w b d n c f)(a:Bw w w'):PatS w' b d n c f:=⟨zab a h.1,λj hj=>zab a (h.2.1 j hj),λj hj=>zab a (h.2.2.1 j hj),λj hj=>zab a (h.2.2.2 j hj)⟩
def PatS.alloc{w a c n b f}(h:PatS w a c n b f)(o):PatS (w.alloc o) a c n b f:=PatS.C h Aj
def PatS.ea{w b c n e d l k m x0 x1 g f}(h:PatS w b c n e f)(i:b≠d)(a:c≠d):PatS (((w.setCell ⟨d,l,none⟩ x0).setCell ⟨d,k,none⟩ x1).setCell ⟨d,m,none⟩ g) b c n e f:=⟨SA h.1 i,λj hj=>SA (h.2.1 j hj) a,λj hj=>SA (h.2.2.1 j hj) a,λj hj=>SA (h.2.2.2 j hj) a⟩
def jL{P:World->Prop}{w b x0 x1 j m a c d O}(e:OB w b x0 x1 j m)(h:∀wt,OB wt b a c d O->Turned w wt b->P wt):P ((((w.setCell ⟨b,0,none⟩ a).setCell ⟨b,1,none⟩ c).setCell ⟨b,2,none⟩ d).setCell ⟨b,3,none⟩ O):=by
 have l:=Co (i:=0) e a;have f:=Co (i:=1) l c;have k:=Co (i:=2) f d;have g:=Co (i:=3) k O;exact h _ (by simpa[OB] using g) (Turned.setCells [a,c,d,O] 0 w b)
def zD{P:World->Prop}{w b x0 x1 a c y}(O:OB w b x0 x1 a c)(h:∀wt,OB wt b y x1 a c->Turned w wt b->P wt):P (w.setCell ⟨b,0,none⟩ y):=
 h _ (by have:=Co (i:=0) O y;simpa[OB] using this) (Turned.setCells [y] 0 w b)
def zG{P:World->Prop}{w b x0 x1 a c y}(O:OB w b x0 x1 a c)(h:∀wt,OB wt b x0 x1 a y->Turned w wt b->P wt):P (w.setCell ⟨b,3,none⟩ y):=
 h _ (by have:=Co (i:=3) O y;simpa[OB] using this) (Turned.setCells [y] 3 w b)
def l9(x)(h:∃sa n a,x.sv=.slice sa n a):∀u∈CX x,u.oneCell'=true:=by
 intro u hu;obtain⟨sa,n,a,h⟩:=h;simp[CX]at hu;rcases hu with rfl|rfl|rfl|rfl
 .rfl
 .rfl
 .rfl
 rw[h];rfl
def xT(g base a c M w)(h:DQ w g)(cg:RO w base a c M)(bM:JA M)(dy:1<=M.length)(dC:M.length<=8) :
  Ca 42 #[.pointer (some ⟨g,0,none⟩),.slice a M.length c,.int .i64 24] w λe w'=>∃oa oc N,e=.returned (.slice oa (List.length N) oc)/\N.length<=24/\OO w' w.heap.size oa oc N/\Rs g w w':=by
 obtain⟨H,MO,cF⟩:=AA h cg bM;clear bM;have bh:=h.lt;clear h cg;go_enter func42,ntmps42;go_wp2_with fail
 go_loopw [7,8] (λov nv wr=>∃(n:Nat)(oa:Option Addr)(oc:Nat)(N:List MC),nv=.int .i64 (n:Int)/\ov=.slice oa N.length oc/\N.length=n/\n<=24/\OO wr w.heap.size oa oc N/\Rs g w wr) (λ_ nv _=>(24-intOf nv).toNat)
 case atStart=>exact⟨0,none,0,[],rfl,rfl,rfl,qd,OO.nil _ _,Rs.refl H.o⟩
 case round=>
  obtain⟨n,oa,oc,N,rfl,rfl,bA,c8,bW,hR⟩:=hrel;have HN:=Af bA;have bN:N.length<=24:=qd;obtain⟨NO,R⟩:=Ah bW hR;have dx:=hR.1.rest.size;clear bA bW hR;go_upto_region 3 with fail
  go_cut [23] (λcv J=>∃t:Bool,cv=.bool t/\(t=true->n<24)/\Rs g wr J)
  case first=>
   by_cases aL:n<24
   .have cI:(n:Int)<24:=qd;cases hz:((n:Int)==0)
    .go_wp2_with fail;refine(vE g wr R.o.2).j ?_;rintro e w1 ⟨t,rfl,aI⟩;go_wp2_with fail;go_meet;exact⟨t,rfl,λ_=>aL,aI⟩
    go_wp2_with fail
    go_meet;exact⟨true,rfl,λ_=>aL,Rs.refl R.o.2⟩
   .have cI:¬(n:Int)<24:=qd;go_wp2_with fail
    go_meet;exact⟨false,rfl,qe,Rs.refl R.o.2⟩
  case rest=>
   obtain⟨t,rfl,a8,aW⟩:=hcut;obtain⟨wb,rfl⟩:∃v,v=wc:=⟨wc,rfl⟩
   obtain⟨b0,Rb⟩:=Ah (NO.o.rs aW bh) (R.o.c aW);have bE:=Af (MO.o.bt Rb.o H.o);have dt:=aW.1.rest.size;clear aW NO R;cases t with
   |false=>
    go_wp2_with fail;go_ret;exact⟨oa,oc,N,rfl,bN,b0.o,Rb.o⟩
   |true=>
    have cV:n<24:=a8 rfl;have aA:g<wb.heap.size:=qd;clear a8;go_wp2_with fail;refine(Fc g wb Rb.o.2).j ?_;rintro e w1 ⟨r,dr,rfl,aI⟩;obtain⟨R1,bV⟩:=Ah aI (bE.o.bt aI Rb.o.2);have ae:=aI.1.rest.size;clear aI bE;go_wp2_with fail;refine(Fc g w1 R1.o.2).j ?_;rintro e w2 ⟨n2,dp,rfl,aR⟩;obtain⟨R2,bk⟩:=Ah (R1.o.c aR) (bV.o.bt aR R1.o.2);have dh:=aR.1.rest.size;obtain⟨i,hi⟩:∃i,i=n2%M.length:=⟨_,rfl⟩
    have cw:i<M.length:=by rw[hi];exact Wz _ qd
    have cz:(n2:Int)%(M.length:Int)=(i:Int):=by rw[hi];push_cast;rfl
    have dw:(i:Int)<(M.length:Int):=qd;have du:(0:Int)<=(i:Int):=qd;have dg:¬(M.length:Int)=0:=qd;obtain⟨x,aS⟩:∃x,M[i]?=some x:=⟨M[i],by simp[cw]⟩
    obtain⟨rk,rfl,dB,c0,c1,c2,c3,c4⟩:=uR bk.o aS;obtain⟨⟨pa,pc,cJ,bO⟩,⟨ea,ec,cu,_,_⟩,aa,ac,cB,_⟩:=bk.o.2 x (yd aS);obtain⟨bm,cq⟩:=cF.o.v aS;rw[cJ]at c2;rw[cu]at c3;rw[cB]at c4;have bQ:=Af bO;clear aR hi R1 bV aS bO;go_upto_region 7 with fail;refine Be ?_;intro d aY bo;obtain⟨Q3,R3,aJ⟩:=AA (show d.cell? ⟨w2.heap.size,2,none⟩=some (.slice pa x.v.length pc)/\w2.heap.size<d.heap.size from⟨by simp[World.cell?,bo],Ak bo⟩) (R2.o.C aY) (bQ.o.C aY);have dD:=aY.size;clear aY bo c0 c1 c2 c3 c4 cz R2 bQ bk
    go_cut [11] (λfv J=>∃(U:Nat)(D:ByteArray)(sa:Option Addr)(q:Nat)(vs:List V),fv=.pointer (some ⟨U,0,none⟩)/\wb.heap.size<=U/\FB J U wb.heap.size 1 D sa q vs/\vs.length<=3/\D.size<=20/\Rs g wb J)
    case first=>
     obtain⟨L,bR⟩:∃L,L=x.v:=⟨_,rfl⟩
     obtain⟨q3,cM⟩:=Q3.o;rw[<-bR]at q3 bm cq aJ;clear bR Q3;have cT:¬L=[]:=λe=>by rw[e]at bm;simp at bm
     obtain⟨f,hf⟩:∃f:Nat->MB,∀j,j<L.length->L[j]?=some (f j):=⟨λj=>L[j]?.getD (L[0]'(by omega)),λj hj=>by simp[hj]⟩
     obtain⟨pk,cL,cS,_,_,_⟩:=gi aJ.o (hf 0 qd);subst cL;have HF:=Af hf;clear hf;have bG:d.drew.cell? ⟨w2.heap.size,2,none⟩=some (.slice (some ⟨pk,0,none⟩) L.length pc):=q3;obtain⟨bv,cd⟩:=Ah (R3.o.2.C (yX _ _).drew) (aJ.o.C (yX _ _).drew);have dk:¬(L.length:Int)=0:=qd;have aX:=Af (λo=>((yX d.heap.size d).alloc (yu _) o).drew:∀o,Below d.heap.size d (d.alloc o).drew);obtain⟨bf,b9⟩:=Ah (λo=>R3.o.2.C (aX.o o)) (λo=>aJ.o.C (aX.o o));have br:∀o,(d.alloc o).drew.cell? ⟨w2.heap.size,2,none⟩=some (.slice (some ⟨pk,0,none⟩) L.length pc):=λo=>zab (aX.o o) q3;obtain⟨cD,ci⟩:=Ah (PatS.of bG cd.o HF.o) (λo=>PatS.of (br o) (b9.o o) HF.o)
     go_region_held3 (λw'=>w'.cell? ⟨w2.heap.size,2,none⟩=some (.slice (some ⟨pk,0,none⟩) L.length pc)/\(∀j,j<L.length->w'.cell? ⟨pk,j*3,none⟩=some (.bool (f j).1.neg))/\(∀j,j<L.length->w'.cell? ⟨pk,j*3+1,none⟩=some (.string (f j).1.z))/\∀j,j<L.length->w'.cell? ⟨pk,j*3+2,none⟩=some (f j).2) (first|with_reducible exact aM.o|with_reducible exact PatS.alloc aM.o _|with_reducible exact PatS.ea aM.o qd qd|with_reducible exact aD.o|with_reducible exact PatS.alloc aD.o _|with_reducible exact cD.o|with_reducible exact ci.o _) (first|(go_at_call 81;refine(Fc g _ bv.o).j ?_;rintro e E ⟨n3,cE,rfl,A⟩;have I:=Af ((R3.o.C (yX _ _).drew).c A);have bj:=A.1.rest.size;(try simp at bj);have bt:w2.heap.size<E.heap.size:=qd;have q4:=MQ A bG qd;obtain⟨l,am⟩:∃l,l=n3%L.length:=⟨_,rfl⟩;have aO:l<L.length:=(by rw[am];exact Wz _ qd);have bu:(n3:Int)%(L.length:Int)=(l:Int):=(by rw[am];push_cast;rfl);have bX:(n3:Int).tmod (L.length:Int)=(l:Int):=pz;have bD:(l:Int)<(L.length:Int):=qd;have bI:(0:Int)<=(l:Int):=qd;have ay:=Af (cd.o.bt A bv.o);have aD:=Af (PatS.of q4 ay.o HF.o);have PY:=Af (ay.o.2 (f l) (yd (HF.o l aO)));clear A am q4)|(go_at_call 81;refine(Fc g _ (bf.o _)).j ?_;rintro e E ⟨n3,cE,rfl,A⟩;have I:=Af ((R3.o.C (aX.o _)).c A);have bj:=A.1.rest.size;(try simp at bj);have bt:w2.heap.size<E.heap.size:=qd;have q4:=MQ A (br _) qd;have dF:=Af (show E.heap[d.heap.size]?=some (.cells #[.int .i64 0,.string ⟨#[]⟩,.slice none 0 0] 145 (0,0)) from Dd A (heap_alloc_new _ _) (show d.heap.size≠g by omega));obtain⟨l,am⟩:∃l,l=n3%L.length:=⟨_,rfl⟩;have aO:l<L.length:=(by rw[am];exact Wz _ qd);have bu:(n3:Int)%(L.length:Int)=(l:Int):=(by rw[am];push_cast;rfl);have bX:(n3:Int).tmod (L.length:Int)=(l:Int):=pz;have bD:(l:Int)<(L.length:Int):=qd;have bI:(0:Int)<=(l:Int):=qd;have ay:=Af ((b9.o _).bt A (bf.o _));have aD:=Af (PatS.of q4 ay.o HF.o);have PY:=Af (ay.o.2 (f l) (yd (HF.o l aO)));clear A am q4)|(go_at_call 87;have bK:Hid (E.heap[d.heap.size]?=some (.cells #[.int .i64 0,.string ⟨#[]⟩,.slice none 0 0] 145 (0,0))):=qk;refine(Xn g base (f l) 1 E I.o.2 PY.o).j ?_;rintro e m ⟨sa,q,vs,rfl,K,af,ax,O⟩;have S5:=Af af;have V5:=Af ax;have R5:=Af ((I.o).c O);have aG:=O.1.rest.size;(try simp at aG);have aN:=Af PY.o.2.2.1.1;have aM:=Af (PatS.of (MQ O aD.o.1 qd) (ay.o.bt O I.o.2) HF.o);have s:=Af (show m.heap[d.heap.size]?=some (.cells #[.int .i64 0,.string ⟨#[]⟩,.slice none 0 0] 145 (0,0)) from Dd O bK.o (show d.heap.size≠g by omega));have x0:m.cell? ⟨d.heap.size,0,none⟩=some (.int .i64 0):=(Ga s.o).1;have x1:m.cell? ⟨d.heap.size,1,none⟩=some (.string ⟨#[]⟩):=(Ga s.o).2.1;have x2:m.cell? ⟨d.heap.size,2,none⟩=some (.slice none 0 0):=(Ga s.o).2.2;have cf:m.frozen? ⟨d.heap.size,0,none⟩=false:=Cd s.o 0;have bP:m.frozen? ⟨d.heap.size,1,none⟩=false:=Cd s.o 1;have bY:m.frozen? ⟨d.heap.size,2,none⟩=false:=Cd s.o 2;have df:d.heap.size<m.heap.size:=Ak s.o;have dl:m.cell? ⟨d.drew.heap.size,0,none⟩=some (.int .i64 0):=x0;have dm:m.cell? ⟨d.drew.heap.size,1,none⟩=some (.string ⟨#[]⟩):=x1;have ds:m.cell? ⟨d.drew.heap.size,2,none⟩=some (.slice none 0 0):=x2;have dd:m.frozen? ⟨d.drew.heap.size,0,none⟩=false:=cf;have cU:m.frozen? ⟨d.drew.heap.size,1,none⟩=false:=bP;have da:m.frozen? ⟨d.drew.heap.size,2,none⟩=false:=bY;clear af ax O)|(go_at_call 87;have aH:=Er E;refine(Xn g base (f l) 1 _ (I.o.2.C (aH.o _)) (PY.o.C (aH.o _))).j ?_;rintro e m ⟨sa,q,vs,rfl,K,af,ax,O⟩;have S5:=Af af;have V5:=Af ax;have R5:=Af ((I.o.C (aH.o _)).c O);have aG:=O.1.rest.size;(try simp at aG);have aN:=Af PY.o.2.2.1.1;have aM:=Af (PatS.of (MQ O (zab (aH.o _) aD.o.1) qd) ((ay.o.C (aH.o _)).bt O (I.o.2.C (aH.o _))) HF.o);have s:=Af (show m.heap[E.heap.size]?=some (.cells #[.int .i64 0,.string ⟨#[]⟩,.slice none 0 0] 145 (0,0)) from Dd O (heap_alloc_new _ _) (show E.heap.size≠g by omega));obtain⟨x0,x1,x2⟩:=Ga s.o;have cf:=Cd s.o 0;have bP:=Cd s.o 1;have bY:=Cd s.o 2;clear af ax O)|(go_at_call 87;refine(Xn g base (f l) 1 E I.o.2 PY.o).j ?_;rintro e m ⟨sa,q,vs,rfl,K,af,ax,O⟩;have S5:=Af af;have V5:=Af ax;have R5:=Af ((I.o).c O);have aG:=O.1.rest.size;(try simp at aG);have aN:=Af PY.o.2.2.1.1;have aM:=Af (PatS.of (MQ O aD.o.1 qd) (ay.o.bt O I.o.2) HF.o);clear af ax O))
     .go_wp2_with fail
      go_meet;exact⟨m.heap.size,(f l).1.z,sa,q,vs,rfl,qd,⟨heap_alloc_new _ _,AF (CA S5.o qd) ((yX _ _).alloc (yu _) _),V5.o⟩,K,aN.o,R5.o.C ((yX _ _).alloc (yu _) _)⟩
     .go_wp2_with fail
      go_meet;exact⟨E.heap.size,(f l).1.z,sa,q,vs,rfl,qd,i5 s.o (CA S5.o qf) V5.o,K,aN.o,((R5.o.ac qd qd).ac qd qd).ac qd qd⟩
     .go_wp2_with fail
      go_meet;exact⟨d.heap.size,(f l).1.z,sa,q,vs,rfl,qd,i5 s.o (CA S5.o qd) V5.o,K,aN.o,((R5.o.ac qd qd).ac qd qd).ac qd qd⟩
    case rest=>
     obtain⟨U,D,sa,q,vs,rfl,dq,aU,K,ad,bg⟩:=hcut;obtain⟨m,rfl⟩:∃v,v=wc:=⟨wc,rfl⟩
     obtain⟨F5,R5⟩:=Ah aU bg;have aG:=bg.1.rest.size;obtain⟨d0,d1,d2⟩:=aU.cells;have cR:U<m.heap.size:=Ak aU.1;clear aU bg R3 aJ Q3;go_upto_region 9 with fail;refine Be ?_;intro w6 a4 aQ;obtain⟨p,bU⟩:∃p,p=m.heap.size:=⟨_,rfl⟩
     rw[<-bU]at aQ⊢;obtain⟨O6,F6,R6⟩:=AA (show OB w6 p (.int .i64 1) (.int .i64 0) (.string D) (.slice sa vs.length q) from aQ) (F5.o.C a4) (R5.o.C a4);have aC:wb.heap.size<=p:=qd;have bC:p≠U:=qd;have dz:=a4.size;have V6:=Af F6.o.2.2;have bB:U≠g:=qd;clear a4 aQ d0 d1 d2 bU F5 R5
     go_upto_block 2 with fail
     go_cut [] (λJ=>OQ g wb.heap.size p 3 wb J)
     case first=>
      by_cases bS:r%8=5∨r%8=6
      .have cN:¬((n:Int)+2)=0:=qd;have b8:∀B,Rs g w6 B->∀b:Nat,1<=b/\b<=26->∀wt,OB wt p (.int .i64 2) (.int .i64 (b:Int)) (.string ⟨#[]⟩) (.slice none 0 0)->Turned B wt p->OQ g wb.heap.size p 3 wb wt:=λB hr b ht wt hO hT=>⟨⟨2,b,⟨#[]⟩,.slice none 0 0,[]⟩,hO,⟨⟨none,0,rfl⟩,yN _ _ _ _,qe,qe,show(0:Nat)<=20 by decide,show(0:Int)<=(b:Int)/\(b:Int)<=26 by omega⟩,qe,(R6.o.c hr).H hT aC aA⟩
       have cr:=Af b8;clear b8;obtain⟨⟨f0,f1,T,Z⟩,z,ao⟩:=O6.o.G;have cj:=Af (Fc g w6 R6.o.2);clear z;have cm:((r:Int)%8==5)=true∨(((r:Int)%8==5)=false/\((r:Int)%8==6)=true):=by
        rcases bS with h|h
        .exact .inl qf
        exact .inr ⟨qf,qf⟩
       clear bS;rcases cm with b5|⟨b5,b6⟩
       all_goals
        go_wp2_with fail;refine cj.o.j ?_;rintro e B ⟨n7,cG,rfl,ak⟩;have O7:=Af (show OB B p _ _ _ _ from Dd ak O6.o qd);have H7:=Af (cr.o B ak);clear ak f0 f1 T Z ao;obtain⟨⟨f0,f1,T,Z⟩,z,ao⟩:=O7.o.G;have z0:=z 0;have z1:=z 1;have z2:=z 2;have z3:=z 3;clear z;obtain⟨b,aB⟩:∃b,b=1+n7%(n+2):=⟨_,rfl⟩
        have aK:=Wz n7 (show 0<n+2 by omega);have bJ:1+(n7:Int)%((n:Int)+2)=(b:Int):=(by rw[aB];push_cast;rfl)
        have bw:1+(n7:Int).tmod ((n:Int)+2)=(b:Int):=(by rw[KS qd];exact bJ)
        have a6:1<=b/\b<=26:=qd;clear aB aK;go_wp2_with fail;refine jL O7.o ?_;intro wt hO hT;go_meet;exact H7.o b a6 wt hO hT
      have b5:((r:Int)%8==5)=false:=by simp;omega
      have b6:((r:Int)%8==6)=false:=by simp;omega
      by_cases h7:r%8=7
      .have b7:((r:Int)%8==7)=true:=by simp;omega
       have f6:=F6.o.cells.2.2;have bZ:w6.drew.cell? ⟨U,2,none⟩=some (.slice sa vs.length q):=f6;have cH:=Af (R6.o.2.C (yX _ _).drew);have Od:=Af (show OB w6.drew p _ _ _ _ from O6.o);go_upto_region 14 with fail;obtain⟨m2,cA⟩:∃m2:Nat,m2=n+2:=⟨_,rfl⟩
       have cP:(n:Int)+2=(m2:Int):=qd;have cQ:¬(m2:Int)=0:=qd;have bF:0<m2/\m2<=26:=qd;have dc:IntKind.i64.wrap ((n:Int)+2)=(m2:Int):=by rw[Yg]<;>omega
       have cY:IntKind.i64.wrap (m2:Int)=(m2:Int):=by rw[Yg];omega
       have cX:((m2:Int)==0)=false:=by simp;omega
       have de:¬(m2:Int) = -1:=qd;have cW:¬m2=0:=qd;clear cA
       go_region_held3 (λw'=>w'.cell? ⟨U,2,none⟩=some (.slice sa vs.length q)) (first|with_reducible exact bZ|with_reducible exact f7|with_reducible exact zuE f7 bC) ((go_at_call 81;refine(Fc g _ cH.o).j ?_;rintro e B ⟨n7,cG,rfl,ak⟩;have f7:=MQ ak bZ bB;have O7:=Af (show OB B p _ _ _ _ from Dd ak Od.o qd);have R7:=Af ((R6.o.C (yX _ _).drew).c ak);have S7:=Af (JJ (AF F6.o.2.1 (yX _ _).drew) ak aA);obtain⟨⟨f0,f1,T,Z⟩,z,ao⟩:=O7.o.G;have z0:=z 0;have z1:=z 1;have z2:=z 2;have z3:=z 3;clear z;obtain⟨Y,bc⟩:∃Y,Y=n7%m2:=⟨_,rfl⟩;have aK:=Wz n7 bF.1;have cK:(n7:Int)%(m2:Int)=(Y:Int):=(by rw[bc];push_cast;rfl);have dA:(n7:Int).tmod (m2:Int)=(Y:Int):=(by rw[KS qd];exact cK);obtain⟨b,aB⟩:∃b,b=1+Y:=⟨_,rfl⟩;have bJ:1+(Y:Int)=(b:Int):=qd;have bw:IntKind.i64.wrap (b:Int)=(b:Int):=(by rw[Yg];omega);have cO:IntKind.i64.wrap (Y:Int)=(Y:Int):=(by rw[Yg];omega);have cZ:Y<26:=qd;have a6:1<=b/\b<=26:=qd;clear aB aK bc;clear ak))
       go_wp2_with fail;refine jL O7.o ?_;intro wt aq au;go_meet;have aw:LJ B wb.heap.size ⟨3,(b:Int),⟨#[]⟩,.slice sa vs.length q,vs⟩:=⟨⟨sa,q,rfl⟩,S7.o,yh K qh,λv hv=>UU (V6.o v hv),show(0:Nat)<=20 by decide,show(0:Int)<=(b:Int)/\(b:Int)<=26 by omega⟩
       exact⟨⟨3,(b:Int),⟨#[]⟩,.slice sa vs.length q,vs⟩,aq,aw.H O7.o au,K,R7.o.H au aC aA⟩
      .have b7:((r:Int)%8==7)=false:=by simp;omega
       go_wp2_with fail
       go_meet;exact⟨⟨1,0,D,.slice sa vs.length q,vs⟩,O6.o,⟨⟨sa,q,rfl⟩,F6.o.2.1,yh K qh,λv hv=>UU (V6.o v hv),ad,show(0:Int)<=0/\(0:Int)<=26 by decide⟩,K,R6.o⟩
     case rest=>
      obtain⟨x,aw,aE,cy,az⟩:=hcut;obtain⟨B,rfl⟩:∃v,v=wc:=⟨wc,rfl⟩
      clear O6 F6 R6 V6;obtain⟨⟨xa,xc,ar⟩,_⟩:=aE.o;rw[ar]at aw;go_upto_if 77 with fail
      go_cut [] (λJ=>OQ g wb.heap.size p 7 wb J)
      case first=>
       obtain⟨⟨f0,f1,T,Z⟩,z,ao⟩:=aw.o.G;have z3:=z 3;clear z;by_cases b4:r=253
       .have bL:((r:Int)==253)=true:=by simp;omega
        clear b4;have co:=az.o.1.rest.size;have aP:=aE.o.2.1;rw[ar]at aP;have HWR:=Af (zms g wb.heap.size xa xc x.vs B az.o.2 aA co qd aE.o.2.2.2.1 aP);go_wp2_with fail;refine HWR.o.j ?_;rintro e w8 ⟨bi,bl,W,rfl,bz,bd,ce,hq⟩;have a7:w8.heap[p]?=B.heap[p]?:=hq.block p ao qd qd (λe=>by
         obtain⟨cc,cn⟩:=AO aP e;exact Cf aw.o cn qh)
        obtain⟨O8,P8,R8⟩:=AA (show OB w8 p (.int .i64 x.u) (.int .i64 x.tag) (.string x.z) (.slice xa x.vs.length xc) from a7.c aw.o) (show LJ w8 wb.heap.size ⟨x.u,x.tag,x.z,.slice bi W.length bl,W⟩ from⟨⟨bi,bl,rfl⟩,ce,bz,bd,aE.o.2.2.2.2⟩) (show Rs g wb w8 from⟨⟨az.o.1.rest.c hq.rest,λk hk ab=>(hq.block k (yg hk az.o.1.rest.size) (λe=>ab Gx) (λe=>ab Gx) (λe=>by have:=(aP.lt k e).1;omega)).c (az.o.1.block k hk ab)⟩,hq.bc⟩);clear f0 f1 T Z z3 ao hq ce bd a7 HWR aP;obtain⟨⟨f0,f1,T,Z⟩,z,ao⟩:=O8.o.G;have z3:=z 3;clear z;go_wp2_with fail;refine zG O8.o ?_;intro wt aq au;go_meet;exact⟨⟨x.u,x.tag,x.z,.slice bi W.length bl,W⟩,aq,P8.o.H O8.o au,bz,R8.o.H au aC aA⟩
       .have bL:((r:Int)==253)=false:=by simp;omega
        go_wp2_with fail
        go_meet;exact⟨x,by rw[ar];exact aw,aE,qd,az⟩
      case rest=>
       obtain⟨y,aT,aF,hy7,a3⟩:=hcut;obtain⟨w8,rfl⟩:∃v,v=wc:=⟨wc,rfl⟩
       clear aw aE az cy ar;obtain⟨⟨ya,yc,a0⟩,_⟩:=aF.o;rw[a0]at aT;go_upto_if 84 with fail
       go_cut [] (λJ=>OQ g wb.heap.size p 7 wb J)
       case first=>
        by_cases bq:r=254
        .have bH:((r:Int)==254)=true:=by simp;omega
         clear bq;have bT:=Af (Fc g w8 a3.o.2);go_wp2_with fail;refine bT.o.j ?_;rintro e w9 ⟨n9,dE,rfl,aV⟩;have O9:=Af (show OB w9 p _ _ _ _ from Dd aV aT.o qd);obtain⟨P9,R9⟩:=Ah (show LJ w9 wb.heap.size ⟨(n9:Int)%6,y.tag,y.z,y.sv,y.vs⟩ from⟨aF.o.1,JJ aF.o.2.1 aV aA,aF.o.2.2⟩) (a3.o.c aV);clear aV bT;obtain⟨⟨f0,f1,T,Z⟩,z,ao⟩:=O9.o.G;have z0:=z 0;clear z;go_wp2_with fail;refine zD O9.o ?_;intro wt aq au;go_meet;exact⟨⟨(n9:Int)%6,y.tag,y.z,y.sv,y.vs⟩,by rw[a0];exact aq,P9.o.H O9.o au,hy7,R9.o.H au aC aA⟩
        .have bH:((r:Int)==254)=false:=by simp;omega
         go_wp2_with fail
         go_meet;exact⟨y,by rw[a0];exact aT,aF,hy7,a3⟩
       case rest=>
        obtain⟨x,aq,a5,dj,bn⟩:=hcut;obtain⟨wt,rfl⟩:∃v,v=wc:=⟨wc,rfl⟩
        clear aT aF a3 hy7 a0;obtain⟨⟨xa,xc,ar⟩,_⟩:=a5.o;rw[ar]at aq;obtain⟨⟨f0,f1,T,Z⟩,_,ao⟩:=aq.o.G;have dv:=bn.o.1.rest.size;have aZ:=Af (b0.o.rs bn.o bh);have HW:=Er wt;have TY:=Af (λo k hk=>AO (AF aZ.o.1 (HW.o o)) (k:=k) hk);obtain⟨kd,b,cl,sv,us⟩:=x;dsimp only at ar f0 f1 T Z;subst ar;go_wp2_with (first|(at_builtin;refine CN qi (.tmp 89) (.tmp 91) 32 qi w.heap.size 40 _ 4 56 underlying32 iF qi qd _ N.length _ qi (AF aZ.o.1 (HW.o _)) (some ⟨_,0,none⟩) 1 1 qi (CX ⟨kd,b,cl,.slice xa us.length xc,us⟩) qi (λe=>qo) (Cv _ _ _ _ qe) (l9 _ ⟨_,_,_,rfl⟩) qj qd qf ?_;intro a9 c9 w9 cC ch di)|fail);go_roundw
        case rel=>
         refine⟨n+1,a9,c9,N++[⟨kd,b,cl,.slice xa us.length xc,us⟩],qm,qe,by simp;exact HN.o,qd,⟨by simpa using cC.o,λy hy=>?_⟩,((Rb.o.c bn.o).C (HW.o _)).grown ch.o (λk hk=>(aZ.o.1.lt k hk).1) bh⟩;have bp:LJ wt w.heap.size y:=by
          rcases yn.1 hy with hy|hy
          .exact aZ.o.2 y hy
          rw[yp.1 hy];exact⟨a5.o.1,CA a5.o.2.1 qd,a5.o.2.2⟩
         exact⟨bp.1,Hv (AF bp.2.1 (HW.o _)) ch.o (TY.o _) qh,bp.2.2⟩
        case measure=>(simp[intOf];omega)
end
structure It where
 af:Int
 K:List Int
abbrev H5:=It × Value
def Fb(x:H5):List Value:=[.int .i64 x.1.af,x.2]
structure Iv(w:World) (base:Nat) (x:H5):Prop where
 ts:∃a c,x.2=.slice a x.1.K.length c
 ot:w.ownsRow base 3 1 x.2 x.1.K.length (Ax x.1.K)
structure Iw(w:World) (b1 base:Nat) (a:Option Addr) (c:Nat) (L:List H5):Prop where
 row:w.ownsRow b1 45 2 (.slice a L.length c) L.length (L.flatMap Fb)
 all:∀x∈L,Iv w base x
def Iw.nil(w a base):Iw w a base none 0 []:=⟨yN _ _ _ _,λx hx=>qB⟩
def Iv.C{w w' base x}(h:Iv w base x)(a:Bw w w'):Iv w' base x:=⟨h.ts,AF h.ot a⟩
def Iw.C{w w' b base a c L}(h:Iw w b base a c L)(d:Bw w w'):Iw w' b base a c L:=⟨AF h.row d,λx e=>(h.all x e).C d⟩
def Iv.grown{w w' base t x row}(h:Iv w base x)(a:w.grownBy w' row)(b:∀k,row=some k->∃c,w.heap[k]?=some (.cells c t (0,0)))(d:t≠3):Iv w' base x:=⟨h.ts,Hv h.ot a b d⟩
def Iw.snoc{w w' b base a e c d L x}(h:Iw w b base a c L)(hx:Iv w base x)(ho:w'.ownsRow b 45 2 (.slice e (L.length+1) d) (L.length+1) (L.flatMap Fb++Fb x))(g:w.grownBy w' (Value.slice a L.length c).ownBlock):Iw w' b base e d (L++[x]):=by
 refine⟨QV,λy hy=>?_⟩;have O:Iv w base y:=by
  exact oM
 exact O.grown g (λk f=>AO h.row f) qh
def Iw.get{w b base a c L}(h:Iw w b base a c L){i x}(d:L[i]?=some x) :
  ∃k,a=some ⟨k,0,none⟩/\b<=k/\k<w.heap.size/\At w k (i*2) (I6 x.1.af)/\At w k (i*2+1) x.2/\w.frozen? ⟨k,i*2,none⟩=false:=by
 have key:=λj u(hj:(Fb x)[j]?=some u)=>BM h.row (FK (cells:=Fb) (m:=2) (λ_=>rfl) L i x j u d hj);obtain⟨k,rfl,f,O,l⟩:=key 0 _ rfl;obtain⟨n,e,_,g,_⟩:=key 1 _ rfl;cases e;exact⟨k,rfl,f,yO w ⟨k,_,none⟩ O,O,g,l⟩
def zlW{w base x}(h:Iv w base x):∀u∈Fb x,u.oneCell'=true:=by
 obtain⟨⟨a,c,b⟩,_⟩:=h;intro u hu;simp[Fb]at hu;rcases hu with rfl|rfl
 .rfl
 rw[b];rfl
def Vj:(prog.info? 45).map (λi=>(i.zero,i.size,i.bytes))=some (some (.agg #[I6 0,.slice none 0 0]),2,32):=qg
def RG(w:World)(a:Option Addr)(L:List It):Prop:=
 ∀(i:Nat)(x:It),L[i]?=some x->∃b o a' c',a=some ⟨b,o,none⟩/\w.cell? ⟨b,o+i*2,none⟩=some (.int .i64 x.af)/\w.cell? ⟨b,o+i*2+1,none⟩=some (.slice a' x.K.length c')/\CU none w a' x.K
def RG.d{w w' a L}(h:RG w a L)(c:Bw w w'):RG w' a L:=by
 intro i x l;obtain⟨b,o,f,k,e,O,g,j⟩:=h i x l;exact⟨b,o,f,k,e,zab c O,zab c g,j.d c⟩
def Iw.at{w j base a c M}(h:Iw w j base a c M):RG w a (M.map Prod.fst):=by
 intro i x b;rw[yA]at b;obtain⟨y,d,rfl⟩:=Yd.1 b;obtain⟨k,rfl,_,_,h0,h1,_⟩:=h.get d;obtain⟨⟨f,g,e⟩,O⟩:=h.all y (yd d);rw[e]at h1 O;exact⟨k,0,f,g,rfl,qD,qw,CU.owns O⟩
def RF(v:Value)(M:List H5)(g:Nat):Prop:=v.ownBlock=some g∨∃x∈M,x.2.ownBlock=some g
def Iw.range{w base a c M}(h:Iw w base base a c M){g}(b:RF (.slice a M.length c) M g):base<=g/\g<w.heap.size:=by
 rcases b with b|⟨x,d,b⟩
 .exact h.row.lt g b
 exact(h.all x d).ot.lt g b
def Iw.kept{w w' e base a c M}(h:Iw w e base a c M)(f:∀g,RF (.slice a M.length c) M g->w'.heap[g]?=w.heap[g]?):Iw w' e base a c M:=
 ⟨Bv h.row (λg b=>f g (.inl b)),λx d=>⟨(h.all x d).ts,Bv (h.all x d).ot (λg b=>f g (.inr ⟨x,d,b⟩))⟩⟩
def QJ{n m:Nat}(h:n+1+1<m):n+1+1<m/\n+1<m/\n<m:=qd
end Go.Proofs.YtikojfajahnhgaaGreat
