import Derived.Test.YtikojfajahnhgaaGreatKbh
import Derived.Test.YtikojfajahnhgaaGreatKbj
import Derived.Test.YtikojfajahnhgaaGreatKbn
import Derived.Test.YtikojfajahnhgaaGreatKbo
set_option linter.all false
set_option maxHeartbeats 12800000
set_option maxRecDepth 100000
namespace Go.Proofs.YtikojfajahnhgaaGreat
attribute [local simp] At I6 Pn mzI
attribute [local go_sem] At I6 Pn
open Go.RowKit Go.Proofs.Tryz
section
attribute [local go_sem ↓] wp_at_zero wp_at_succ
def l7(fs):∀(a:List Pt)(xs:List Pm)(n t b:Nat),(∀x∈xs,x.K.length<=t/\x.ao.length<=b)->(∀p∈a,p.e.length<=6)->∀y∈(AP a fs xs n).1,y.K.length<=t+a.length/\y.ao.length<=b+6*a.length
 |[],xs,n,t,b,h,_,y,hy=>by
  simp only[AP]at hy
  simpa using h y hy
 |p::a,xs,n,t,b,h,h6,y,hy=>by
  simp only[AP]at hy
  have f:=h6 p Y6
  have:=l7 fs a (CJ p fs xs) _ (t+1) (b+6) (λx c=>by have:=mN h x c;omega) (λq d=>h6 q (YH _ d)) y hy
  rw[yI]
  omega
def Cy(rs:List Ru)(fs:List F):Bool:=decide ((A8 rs).1=0)&&C8 fs
def Ll{rs fs}(h:Cy rs fs=true):(A8 rs).1=0/\C8 fs=true/\fs.length<=40:=by
 unfold Cy at h;simp at h;refine⟨h.1,h.2,?_⟩;have a:=h.2;unfold C8 at a;simp at a;exact a.1
def Fa.one{w k x a_p a_e a_a c_p c_e c_a}(h:w.heap[k]?=some (.cells #[.string x.name,I6 x.W,.slice a_p x.v.length c_p,.slice a_e x.w.length c_e,.slice a_a x.E.length c_a] 53 (0,0)))(b:Ez none w a_p x.v)(O:Dt none w a_e x.w)(d:FI none w a_a x.E)(c:x.w.length<=c_e):Fa none w (some ⟨k,0,none⟩) [x]:=by
 intro i y a;rcases i with _|i
 .simp at a;subst a;refine⟨k,0,_,rfl,Qb.ah _ _ _,rfl,?_,a_p,c_p,a_e,c_e,a_a,c_a,rfl,b,O,d,c⟩;intro j v hj;rcases j with _|_|_|_|_|j
  all_goals simp at hj
  all_goals subst hj
  all_goals simp[World.cell?,h]
 simp at a
end
section
open Go.Maps
attribute [local go_sem ↓] wp_at_zero wp_at_succ
structure JB(E B:Nat) (w w':World):Prop where
 os:w'.os=w.os
 tape:w'.tape=w.tape
 output:w'.output=w.output
 size:w.heap.size<=w'.heap.size
 block:∀g,g<w.heap.size->(g<E∨B<=g)->w'.heap[g]?=w.heap[g]?
def JB.refl(E B w):JB E B w w:=⟨rfl,rfl,rfl,yu _,λ_ _ _=>rfl⟩
def JB.c{E B u v w}(h:JB E B u v)(k:JB E B v w):JB E B u w:=⟨k.os.c h.os,k.tape.c h.tape,k.output.c h.output,yh h.size k.size,λg a b=>(k.block g (yg a h.size) b).c (h.block g a b)⟩
def JB.d{E B u v w}(k:Below E u v)(b:E<=v.heap.size)(h:JB E B v w):Below E u w:=⟨h.os.c k.os,h.tape.c k.tape,h.output.c k.output,yh k.size h.size,λg a=>(h.block g (yg a b) (.inl a)).c (k.block g a)⟩
def JB.Q{E B base w w' e m v n xs}(h:JB E B w w')(O:w.ownsRow base e m v n xs)(b:B<=base):w'.ownsRow base e m v n xs:=
 Bv O λk a=>h.block k (O.lt k a).2 (.inr (yh b (O.lt k a).1))
structure Pw where
 ca:Option Addr
 cc:Nat
 va:Option Addr
 vc:Nat
 cs:List Cn
def RM(w:World)(B:Nat)(fs:List F)(a:Option Addr)(rs:List Ru)(PW:List Pw):Prop:=
 ∀(i:Nat)(r:Ru)(x:Pw),rs[i]?=some r->PW[i]?=some x->∃b o,a=some ⟨b,o,none⟩/\B<=b/\w.cell? ⟨b,o+i*2,none⟩=some (.slice x.ca x.cs.length x.cc)/\w.cell? ⟨b,o+i*2+1,none⟩=some (.slice x.va (DL r.v [] 0).length x.vc)/\Pu w fs x.ca x.va r x.cs/\x.cs.length<=x.cc/\w.ownsRow B 330 3 (.slice x.va (DL r.v [] 0).length x.vc) (DL r.v [] 0).length ((DL r.v [] 0).flatMap Hw)
def RM.d{w w' B fs a rs f}(h:RM w B fs a rs f)(c:Bw w w'):RM w' B fs a rs f:=by
 intro i r x k l;obtain⟨b,o,e,m,O,p,n,j,g⟩:=h i r x k l;exact⟨b,o,e,m,zab c O,zab c p,n.d c,j,AF g c⟩
def GJ(P:List Px)(rs:List Ru)(k:Nat):Prop:=P.length=k/\∀(i:Nat)(x:Px)(r:Ru),P[i]?=some x->rs[i]?=some r->x.X.map Cx.cp=Bm r.v [] 0/\x.U=DL r.v [] 0
def GJ.snoc{P rs k x r}(h:GJ P rs k)(c:rs[k]?=some r)(e:x.X.map Cx.cp=Bm r.v [] 0)(d:x.U=DL r.v [] 0):GJ (P++[x]) rs (k+1):=by
 refine⟨by simp[h.1],λi y q a b=>?_⟩;by_cases f:i<P.length
 .rw[yr f]at a;exact h.2 i y q a b
 have O:i=P.length:=by
  have:=(ye.1 a).1;simp at this;omega
 subst O;simp at a;subst a;rw[h.1,c]at b;cases b;exact⟨e,d⟩
def Fo.at{w B base n mb D I L g V Q fs a c P rs}(h:Fo w B a c P (L.map Prod.fst) g)(G:NF w base n mb D I L g V (λ_=>Q))(t:Q.map Prod.snd=fs)(hF:∀y∈Q,DB w y.1 y.2)(l:GJ P rs rs.length)(s:∀r∈rs,∀p∈r.v,p.e.length<=6)(o:fs.length<=40):RM w B fs a rs (P.map λx=>⟨x.ca,x.cc,x.va,x.vc,x.X.map (BB fs)⟩):=by
 intro i r z d f;have E:i<P.length:=by rw[l.1];exact(ye.1 d).1
 obtain⟨x,b⟩:=Ba E;obtain⟨C,J⟩:=l.2 i x r b d;have key:=λj u(hj:(Ht x)[j]?=some u)=>BM h.row (FK (cells:=Ht) (m:=2) (λ_=>rfl) P i x j u b hj);obtain⟨k,rfl,H,h0,_⟩:=key 0 _ rfl;obtain⟨K,q,_,h1,_⟩:=key 1 _ rfl;cases q;have O:=h.P x (yd b);have A:=L_ O.conds;rw[J]at O h1;rw[yA,b]at f;cases f;exact⟨k,0,rfl,H,qD,qw,O.eQ G t hF C (s r (yd d)) o,by simpa using A,O.vars⟩
def PoZ(rs:List Ru)(fs:List F)(wE w:World)(e:Ending)(w':World):Prop:=
 (∃a c base gb mb la lc L bs V P Q,e=.returned (.slice a rs.length c)/\GJ P rs rs.length/\Fo w' base a c P (L.map Prod.fst) bs/\NF w' base gb mb la lc L bs V (λ_=>Q)/\Q.map Prod.snd=fs/\∀y∈Q,DB wE y.1 y.2)/\Bw w w'
def zme(rs a c fs fa fc){q}(wE w)(hE:Bw wE w)(hv:Fa q w a rs)(hc:rs.length<=c)(aD:EW Ru.le 1048576 rs)(ho:∀x∈rs,H_ x.w)(aO:∀r∈rs,∀p∈r.v,∀t∈p.e,DO t.val)(aA:Bz wE fa fs)(a8:fs.length<=1048576)(a4:∀f∈fs,AJ f)(au:Cy rs fs=true) :
  Ca 56 #[.slice a rs.length c,.slice fa fs.length fc] w (PoZ rs fs wE w):=by
 have aC:=aA.d hE;obtain⟨kl,K⟩:=LM.bD;obtain⟨HV,bk,bm,bd,bq,HE⟩:=Jk hv aD aO aC aA hE;have bC:=hE.size;obtain⟨A,ax⟩:=Ah (X5 a c rs w hv hc aD ho) (λw'(hb:Bw w w')=>Y_ fa fc fs w' (aC.d hb) a8 a4);clear hv aD aO aC a4 ho aA hE;unfold NC at A;have bp:∀(p0 p1 p2:Int)(w:World),(Instr.field 80 (.agg #[I6 p0,I6 p1,I6 p2]) 0).run prog w=.ok (I6 p0) w:=λ_ _ _ _=>by kernel_rfl
 obtain⟨J,s,bv⟩:=Ll au;have bJ:=(Qa J).1;have bu:=Aa (λr(M:r∈rs)=>Mc J M);have aZ:((A8 rs).1 != 0)=false:=by simpa using J
 have aP:((A8 rs).1==0)=true:=by simpa using J
 generalize (A8 rs).1=p0 at A J aZ aP;generalize (A8 rs).2.1=p1 at A;generalize (A8 rs).2.2=p2 at A;clear J;rw[s]at ax;clear s au;go_enter func56,ntmps56;go_wp2_with fail;refine A.o.rtn λw1 ay=>?_;obtain⟨B1,GF⟩:=Ah ay (ax.o w1 ay);clear ay A ax;go_wp2_with fail;refine GF.o.rtn λw2 aW=>?_;have B2:=Aa (B1.o.thn aW);have O:=B2.o.size;clear aW GF B1 bp aZ aP;go_wp2_with fail;refine(mu kl w2).rtn λw3⟨aw,aE⟩=>?_;obtain⟨G3,B3⟩:=Ah aw (B2.o.thn aE);have aR:=aE.size;clear aw aE B2;obtain⟨m,a3⟩:∃m,m=w2.heap.size+1:=⟨_,rfl⟩
 obtain⟨base,aI⟩:∃v,v=w2.heap.size:=⟨_,rfl⟩
 rw[<-a3]at G3⊢;rw[<-aI]at G3 O aR;have bw:base<=m:=qd;clear a3 aI;go_wp2_with fail
 go_loopw [22,6] (λiv pv wr=>∃(k:Nat)(pa:Option Addr)(pc:Nat)(P:List Px)(u:Option Addr)(y:Nat)(L:List FH)(n:List Nat)(D:DataW Unit),iv=I6 (k:Int)/\pv=.slice pa P.length pc/\k<=rs.length/\P.length<=k/\GJ P rs k/\L.length<=6*k/\(∀x∈L,x.1.x.length<=6)/\NS kl wr base m base u y L n D/\Fo wr base pa pc P (L.map Prod.fst) n/\Bw w wr/\base<=wr.heap.size) (λiv _ _=>rs.length-(intOf iv).toNat)
 case atStart=>exact⟨0,none,0,[],none,0,[],[],_,rfl,rfl,yk _,yu _,⟨rfl,λi x r hx=>qB⟩,yu _,λx hx=>qB,G3.o,⟨yN _ _ _ _,λx hx=>qB⟩,B3.o,aR⟩
 case round=>
  obtain⟨k,pa,pc,P,u,y,L,n,D,rfl,rfl,bD,bF,aJ,bE,aq,aX,ar,hB,bo⟩:=hrel;obtain⟨PX,aG,G,PL,B⟩:=DE aJ aq aX ar hB;clear aJ aq aX ar hB G3 B3;by_cases hk:k<rs.length
  .obtain⟨r,M⟩:=Ba hk;obtain⟨rb,ro,a_p,c_p,a_e,c_e,aL,aK,rfl,_,c0,Z,N,c3,c4,aN,_,_,_⟩:=HV.o.get M;have d0:=zab B.o c0;have d1:=zab B.o Z;have d2:=zab B.o N;have d3:=zab B.o c3;have d4:=zab B.o c4;have am:=yd M;obtain⟨bl,aV,_⟩:=bu.o r am;obtain⟨aU,HR⟩:=Ah (λw'(hN:NS kl w' base m base u y L n D)(hA:Bw w w')(hb:base<=w'.heap.size)=>mY kl K r a_p c_p a_e c_e aL aK base m base u y L n D w w' hA O hb aN hN bl aV (bk.o.2 r am).2.1.2 (bm.o r am) qd aG.o) M;have z0:(0:Int)<=(k:Int):=qd;have z1:(k:Int)<(rs.length:Int):=qd;clear c0 Z N c3 c4 aN M aV am;go_upto_region 8 with fail;refine Be ?_;intro z Y af;have y0:At z wr.heap.size 0 (.string r.name):=qE;have y1:At z wr.heap.size 1 (I6 r.W):=qE;have y2:At z wr.heap.size 2 (.slice a_p r.v.length c_p):=qE;have y3:At z wr.heap.size 3 (.slice a_e r.w.length c_e):=qE;have y4:At z wr.heap.size 4 (.slice aL r.E.length aK):=qE;obtain⟨H,aF,B5⟩:=AA (G.o.C Y) (PL.o.C Y) (B.o.thn Y);have bH:=Y.size;have a6:base<=z.heap.size:=qd;clear Y af d0 d1 d2 d3 d4 G PL B;go_wp2_with fail;refine(aU.o z H.o B5.o a6).j ?_;rintro e w6 ⟨ac,ae,L',ab,D',ca,cc,va,vc,X,rfl,hX,aQ,a5,U,_,aM,ao,bz,h6⟩;obtain⟨az,G6,bt,bi,EX,bg,HX,H6⟩:=Up (U.Q aF.o.row H.o qh qh) aQ (a5.lower a6) U aM ao hX h6;have bI:=U.rest.size;have bf:base<=w6.heap.size:=qd;obtain⟨B6,I⟩:=Ah (B5.o.c (U.d B5.o.size (yh O H.o.aW.1) (yh O H.o.aW.2) (λg s=>yh O (H.o.row.lt g s).1))) (λo=>An.alloc AH o:∀o,Bw w6 (w6.alloc o));have TY:=Aa (λo g s=>AO (AF az.o (I.o o)) (k:=g) s);clear hX aQ a5 U aM ao h6 y0 y1 y2 y3 y4 aU;go_wp2_with (first|(at_builtin;refine CN qi (.tmp 26) (.tmp 30) 97 qi base 102 _ 2 48 underlying97 gK qi qd _ P.length _ qi (AF az.o (I.o _)) (some ⟨_,0,none⟩) 1 1 qi (Ht ⟨ca,cc,va,vc,X,DL r.v [] 0⟩) qi (λe=>qo) (Cv _ _ _ _ qG) (gQ _) qj qd (yh bf (I.o _).size) ?_;intro a7 c7 w7 ad l ag)|fail);obtain⟨a9,G7⟩:=Ah (aF.o.push (x:=⟨ca,cc,va,vc,X,DL r.v [] 0⟩) H.o bi.o EX.o bg.o bt.o l.o ad.o) ((G6.o.C (I.o _)).grown l.o (TY.o _) qY);have bj:=l.o.size;simp at bj;obtain⟨B7,bn⟩:=Ah ((B6.o.c ((I.o _).j B6.o.size)).grown l.o (yh B6.o.size (I.o _).size) (λg s=>yh O (az.o.lt g s).1)) (PX.o.snoc (x:=⟨ca,cc,va,vc,X,DL r.v [] 0⟩) HR.o HX.o rfl);clear ag;go_roundw
   case rel=>exact⟨k+1,a7,c7,P++[⟨ca,cc,va,vc,X,DL r.v [] 0⟩],ac,ae,L',ab,D',qm,qe,qd,qf,bn.o,qd,H6.o,G7.o,a9.o,B7.o,qd⟩
   case measure=>(simp[intOf];omega)
  have bh:k=rs.length:=qd;subst bh;have hy:¬(rs.length:Int)<(rs.length:Int):=qd;have aB:=Aa (NF.dw G.o);obtain⟨wQ,a0⟩:∃v,v=wr:=⟨wr,rfl⟩
  rw[<-a0]at aB PL B bo⊢;clear G a0;go_wp2_with fail
  go_loopw [35] (λiv wr=>∃(k:Nat)(V:List Value),iv=I6 (k:Int)/\k<=fs.length/\NF wr base m base u y L n V (λ_=>Jd fa fs k)/\Dr base wQ wr) (λiv _=>fs.length-(intOf iv).toNat)
  case atStart=>exact⟨0,_,rfl,yk _,aB.o,Dr.refl _ _⟩
  case round=>
   obtain⟨j,V,rfl,bA,aY,ak⟩:=hrel;obtain⟨NR,FT,AR⟩:=AA aY ak (B.o.c (ak.rest.j O));have bG:=ak.rest.size;have br:base<=wr.heap.size:=qd;clear aY ak aB;by_cases hj:j<fs.length
   .obtain⟨f,hf⟩:=Ba hj;obtain⟨R,T,rfl,c0,Z,sa,sc,N,aT⟩:=bd.o j f hf;have bB:=gy (some ⟨R,T,none⟩) fs j;obtain⟨aH,HQ⟩:=Ah (zky base m base u y L n V (Jd (some ⟨R,T,none⟩) fs j) (.pointer (some ⟨R,T+j*3,none⟩)) f w wr AR.o O ⟨R,T+j*3,rfl,c0,Z,sa,sc,N,aT⟩ NR.o br qd qd (λx hx=>yh (aG.o x hx) qh)) (jg (b:=R) (o:=T) hf);have z0:(0:Int)<=(j:Int):=qd;have z1:(j:Int)<(fs.length:Int):=qd;clear hf c0 Z N aT;go_wp2_with fail;refine aH.o.rtn λw8⟨⟨V',aa⟩,aS⟩=>?_;obtain⟨N8,F8⟩:=Ah aa (FT.o.c aS);clear aa aS aH;go_wp2_with fail;go_roundw
    case rel=>exact⟨j+1,V',qm,qd,by rw[HQ.o];exact N8.o,F8.o⟩
    case measure=>(simp[intOf];omega)
   have bc:j=fs.length:=qd;subst bc;have hy2:¬(fs.length:Int)<(fs.length:Int):=qd;go_wp2_with fail;go_ret;obtain⟨q1,q2⟩:=iQ bq.o fs.length AH;rw[yV]at q1;refine⟨?_,AR.o⟩;exact⟨pa,pc,base,m,base,u,y,L,n,V,P,_,by rw[PX.o.1];rfl,PX.o,PL.o.ft FT.o,NR.o,q1,q2⟩
end
section
attribute [local go_sem ↓] wp_at_zero wp_at_succ
def tokM(r:Ru)(fs:List F):Nat:=if Cy [r] fs=true then(AP r.v fs [⟨[],[]⟩] 0).2 else 0
def DN{w b ty x0 x1 c d a}(h:w.heap[b]?=some (.cells #[x0,x1,c,d,a] ty (0,0))):At w b 0 x0/\At w b 1 x1/\At w b 2 c/\At w b 3 d/\At w b 4 a:=by
 refine⟨?_,?_,?_,?_,?_⟩<;>simp[World.cell?,h]
end

section
attribute [local go_sem ↓] wp_at_zero wp_at_succ
def gJ(bs:List Bd)(w:World)(e:Ending)(w':World):Prop:=(∃a c,e=.returned (.slice a bs.length c)/\w'.ownsRow w.heap.size 367 4 (.slice a bs.length c) bs.length (bs.flatMap EV))/\Bw w w'
def gJ.nil{a:List Bd}{w w':World}(b:a=[])(c:Bw w w'):gJ a w (.returned (.slice none 0 0)) w':=by
 subst b;exact⟨⟨none,0,rfl,yN _ _ _ _⟩,c⟩
end
def Vh(fs:List F):∀(b:List Pt)(T:List F)(vs:List Vr)(m:Nat),Fq b vs T.length->BA vs ⟨#[]⟩=none->(∀x∈vs,x.ak<T.length) ->
  (AP b fs [⟨T.map (·.tag),AE T vs⟩] m).1=(Ci (Bm b vs T.length) fs T).map (λU=>(⟨U.map (·.tag),AE U (DL b vs T.length)⟩:Pm))
 |[],T,vs,m,_,_,_=>rfl
 |p::b,T,vs,m,hk,hE,hT=>by
  obtain⟨i,o,O⟩:=hk
  have g:=Va i hE o hT ⟨p.neg,T.length,C0 p,Cw vs p.e p.e.length⟩ rfl rfl fs
  rw[TE]
  simp only[AP,Bm,Ci]
  have l:CJ p fs [⟨T.map (·.tag),AE T vs⟩]=Gu p fs ⟨T.map (·.tag),AE T vs⟩:=by simp[CJ]
  rw[l]
  unfold Gu
  by_cases a:p.neg=true
  .rw[if_pos a,if_pos a,if_pos a,if_pos a]
   rw[if_pos a]at O
   rw[g]
   by_cases c:fs.any (lets ⟨p.neg,T.length,C0 p,Cw vs p.e p.e.length⟩ T)=true
   .rw[if_pos c,if_neg (by
     obtain⟨f,d,q⟩:=Wx.1 c
     have:=List.length_pos_of_mem (yf.2 ⟨d,q⟩)
     rw[yt]
     omega),SG]
    rfl
   rw[if_neg c,if_pos (by
    rw[yt,YL,We]
    intro f d k
    exact c (Wx.2 ⟨f,d,k⟩))]
   exact Vh fs b T vs _ O hE hT
  rw[if_neg a,if_neg a,if_neg a,if_neg a]
  rw[if_neg a]at O
  rw[g,VT,Ko,K9]
  congr 1
  funext f
  have n:BA (CL vs p.e T.length p.e.length) ⟨#[]⟩=none:=(OJ _ _ AH).2 ⟨hE,X_ (kL i) _ AH⟩
  have:=Vh fs b (T++[f]) (CL vs p.e T.length p.e.length) 0 qZ n (λx j=>by simpa using Qx hT p.e.length x j)
  simpa using this
def tG{fs:List F}{a:List Pt}(b:Fq a [] 0):(AP a fs [⟨[],[]⟩] 0).1=(Ci (Bm a [] 0) fs []).map (λU=>(⟨U.map (·.tag),AE U (DL a [] 0)⟩:Pm)):=Vh fs a [] [] 0 b rfl (λx hx=>qB)
def EY(fs:List F):Nat->List Ru->List It
 |_,[]=>[]
 |i,r::rs=>(AP r.v fs [⟨[],[]⟩] 0).1.map (λx=>(⟨(i:Int),x.K⟩:It))++EY fs (i+1) rs
def mV(fs r):∀(rs:List Ru)(i:Nat),EY fs i (rs++[r])=EY fs i rs++(AP r.v fs [⟨[],[]⟩] 0).1.map (λx=>(⟨((i+rs.length:Nat):Int),x.K⟩:It))
 |[],i=>by simp[EY]
 |s::rs,i=>by
  simp only[Yb,EY]
  rw[mV fs r rs (i+1),yW,yI,show i+1+rs.length=i+(rs.length+1) by omega]
def zo(fs){rs:List Ru}{k r}(h:rs[k]?=some r):EY fs 0 (rs.take (k+1))=EY fs 0 (rs.take k)++(AP r.v fs [⟨[],[]⟩] 0).1.map (λx=>(⟨(k:Int),x.K⟩:It)):=by
 have a:k<rs.length:=(ye.1 h).1;rw[yZ,h];simp only[Option.toList];rw[mV,Yt,Zi qd,Yc]
def zlP(p fs)(b:fs.length<=40)(x):(Gu p fs x).length<=40^(Ad [p]):=by
 have:=SV p x fs;unfold Gu Ad;by_cases a:p.neg=true
 .rw[if_pos a];simp[FW,a];split<;>simp
 rw[if_neg a];simp[FW,a];omega
def l_(p fs)(a:fs.length<=40):∀X:List Pm,(CJ p fs X).length<=X.length*40^(Ad [p])
 |[]=>by simp[CJ]
 |x::r=>by
  have d:=l_ p fs a r
  have c:=zlP p fs a x
  have b:CJ p fs (x::r)=Gu p fs x++CJ p fs r:=by unfold CJ;rw[yL]
  rw[b,yP,yI,KY]
  omega
def kI(fs)(b:fs.length<=40):∀(a:List Pt)(xs:List Pm)(n:Nat),(AP a fs xs n).1.length<=xs.length*40^Ad a
 |[],xs,n=>by simp[AP,Ad]
 |r::a,xs,n=>by
  have d:=kI fs b a (CJ r fs xs) (n+(CJ r fs xs).length)
  have c:=l_ r fs b xs
  have e:Ad (r::a)=Ad [r]+Ad a:=by
   unfold Ad;rw[<-List.countP_append];rfl
  simp only[AP];rw[e,Nat.pow_add,<-Nat.mul_assoc];exact yh d (Yl _ c)
def kE{rs fs}(h:Cy rs fs=true){r}(g:r∈rs):(AP r.v fs [⟨[],[]⟩] 0).1.length<=64000/\∀x∈(AP r.v fs [⟨[],[]⟩] 0).1,x.K.length<=6:=by
 obtain⟨O,_,i⟩:=Ll h;obtain⟨j,e,c⟩:=Mc O g;have d:=kI fs i r.v [⟨[],[]⟩] 0;have b:40^Ad r.v<=40^3:=Wn qd c;rw[List.length_singleton,W0]at d;refine⟨by simp at b;omega,λx f=>?_⟩;have:=(l7 fs r.v [⟨[],[]⟩] 0 0 0 (by intro y a;simp at a;subst a;simp) e x f).1;omega
def im{rs}(h:(A8 rs).1=0):rs.length<=16:=by
 unfold A8 at h;split at h
 .assumption
 simp at h
def mj{fs}:∀(rs:List Ru)(i:Nat),(∀r∈rs,(AP r.v fs [⟨[],[]⟩] 0).1.length<=64000/\∀x∈(AP r.v fs [⟨[],[]⟩] 0).1,x.K.length<=6)->(EY fs i rs).length<=rs.length*64000/\∀y∈EY fs i rs,y.K.length<=6
 |[],i,_=>by simp[EY]
 |r::rs,i,h=>by
  obtain⟨f,c⟩:=mj rs (i+1) (λx b=>h x (YH _ b))
  obtain⟨e,d⟩:=h r Y6
  simp only[EY]
  refine⟨by rw[yP,yt,yI];omega,λy a=>?_⟩
  rcases yn.1 a with a|a
  .obtain⟨x,b,rfl⟩:=yz.1 a
   exact d x b
  exact c y a
def zg3{rs fs}(h:Cy rs fs=true)(k):(EY fs 0 (rs.take k)).length<=1024000/\∀y∈EY fs 0 (rs.take k),y.K.length<=6:=by
 have d:=im (Ll h).1;obtain⟨a,b⟩:=mj (fs:=fs) (rs.take k) 0 (λr c=>kE h (YM c));refine⟨?_,b⟩;rw[Yt]at a;omega
def Om(L:List It)(w:World)(e:Ending)(w':World):Prop:=(∃a c M,e=.returned (.slice a (List.length M) c)/\Iw w' w.heap.size w.heap.size a c M/\M.map Prod.fst=L)/\Bw w w'
def Om.nil{L w w'}(b:L=[])(a:Bw w w'):Om L w (.returned (.slice none 0 0)) w':=by
 subst b;exact⟨⟨none,0,[],rfl,Iw.nil _ _ _,rfl⟩,a⟩
def Om.mk{L w w' a c M}(b:L=M.map Prod.fst)(h:Iw w' w.heap.size w.heap.size a c M)(d:Bw w w'):Om L w (.returned (.slice a M.length c)) w':=by
 subst b;exact⟨⟨a,c,M,rfl,h,rfl⟩,d⟩
section
open Go.Maps
structure Kq(cb L M:Nat) (W W':World):Prop where
 os:W'.os=W.os
 tape:W'.tape=W.tape
 output:W'.output=W.output
 size:W.heap.size<=W'.heap.size
 block:∀k,k<W.heap.size->k≠cb->(k<L∨((k<M∨∃c t fr,W.heap[k]?=some (.cells c t fr))/\∀c fr,W.heap[k]?≠some (.cells c 45 fr)))->W'.heap[k]?=W.heap[k]?
def Kq.refl(cb L M W):Kq cb L M W W:=⟨rfl,rfl,rfl,yu _,λ_ _ _ _=>rfl⟩
def Kq.c{cb L M U V W}(h:Kq cb L M U V)(k:Kq cb L M V W):Kq cb L M U W:=
 ⟨k.os.c h.os,k.tape.c h.tape,k.output.c h.output,yh h.size k.size,λj hj d a=>by
  have e:=h.block j hj d a
  refine(k.block j (yg hj h.size) d ?_).c e
  rcases a with a|⟨a,g⟩
  .exact .inl a
  refine .inr ⟨?_,λc b f=>g c b (e.y.c f)⟩
  rcases a with a|⟨c,t,b,a⟩
  .exact .inl a
  exact .inr ⟨c,t,b,e.c a⟩⟩
def Kq.box{cb L M b W g c t f}(h:Kq cb L M W g)(a:W.heap[b]?=some (.cells c t f))(d:b≠cb)(i:t≠45):g.heap[b]?=some (.cells c t f):=
 (h.block b (Ak a) d (.inr ⟨.inr ⟨c,t,f,a⟩,λj O e=>i (by rw[a]at e;injection e with e;injection e)⟩)).c a
abbrev Tk3:=Option Addr × Option Addr × Option Addr
structure SK where
 wE:World
 w1:World
 B:Nat
 cb:Nat
 M:Nat
 l:Nat
 pb:Nat
 yb:Nat
 sb:Nat
 xb:Nat
 base:Nat
 gb:Nat
 mb:Nat
 ca:Option Addr
 cc:Nat
 m:Nat
 vv:Value
 va:Option Addr
 vc:Nat
 la:Option Addr
 lc:Nat
 L:List FH
 bs:List Nat
 V:List Value
 Q:List (Value × F)
 X:List Cx
 U:List Vr
 fs:List F
 mem:∀W,JB wE.heap.size B w1 W->PD W base ca cc va vc X U (L.map Prod.fst) bs/\NF W base gb mb la lc L bs V (λ_=>Q)
 snd:Q.map Prod.snd=fs
 facs:∀y∈Q,DB wE y.1 y.2
 d:Bw wE w1
 hm:m<=X.length
 h1:wE.heap.size<=cb
 h2:cb<B
 h3:w1.heap.size<=M
 n1:pb≠cb
 n2:yb≠cb
 n3:sb≠cb
 n4:xb≠cb
 f40:fs.length<=40
 small:∀c∈X,c.cp.x.length<=6
 X6:X.length<=6
 h4:B<=w1.heap.size
structure Is(w:World) (p0 p1 p2:Option Addr) (T:List F):Prop where
 cS:En w (.pointer p0) (.pointer p1) (.pointer p2) T
 z0:T.length<=0->p0=none
 z1:T.length<=1->p1=none
 z2:T.length<=2->p2=none
 le:T.length<=3
def Rp(w:World):={y:Tk3 × List F // Is w y.1.1 y.1.2.1 y.1.2.2 y.2}
def QI{w:World}(x:Rp w):List F:=x.1.2
def Mz(K:SK)(J Jx:List (Rp K.wE)->World->Prop)(pre:List (Rp K.wE))(Ts:List (List F))(W:World)(e:Ending)(W':World):Prop:=
 (e=.returned (.bool true)/\∃ys:List (Rp K.wE),ys.map QI=Ts/\J (pre++ys) W'/\Kq K.cb K.w1.heap.size K.M W W')∨(e=.returned (.bool false)/\∃q,Jx q W')
def En.put{w c b d y T f}(h:En w (.pointer c) (.pointer b) (.pointer d) T)(m:T.length<3)(l:DB w (.pointer y) f):En w (.pointer (if T.length=0 then y else c)) (.pointer (if T.length=1 then y else b)) (.pointer (if T.length=2 then y else d)) (T++[f]):=by
 intro i g a;by_cases O:i<T.length
 .rw[yr O]at a;obtain⟨pv,j,k⟩:=h i g a;refine⟨pv,?_,k⟩;rcases i with _|_|_|i
  .rw[if_neg qd];simpa using j
  .rw[if_neg (show¬T.length=1 by omega)];simpa using j
  .omega
  omega
 have e:i=T.length:=by
  have:=(ye.1 a).1;simp at this;omega
 subst e;simp at a;subst a;refine⟨.pointer y,?_,l⟩;rcases(show T.length=0∨T.length=1∨T.length=2 by omega) with h|h|h<;>rw[h]<;>simp
def Is.put{w b a c y T f}(h:Is w b a c T)(g:T.length<3)(d:DB w (.pointer y) f):Is w (if T.length=0 then y else b) (if T.length=1 then y else a) (if T.length=2 then y else c) (T++[f]):=by
 have hl:(T++[f]).length=T.length+1:=qe;refine⟨h.cS.put g d,λe=>?_,λe=>?_,λe=>?_,?_⟩
 .omega
 .rw[if_neg qd];exact h.z1 qd
 .rw[if_neg qd];exact h.z2 qd
 omega
def Mz.one{K J d pre f W e a}(h:Mz K J d pre f W e a):∃b:Bool,e=.returned (.bool b)/\Hid (b=true->∃ys:List (Rp K.wE),ys.map QI=f/\J (pre++ys) a/\Kq K.cb K.w1.heap.size K.M W a)/\Hid (b=false->∃q,d q a):=by
 rcases h with⟨rfl,h⟩|⟨rfl,h⟩
 .exact⟨true,rfl,Aa (λ_=>h),Aa (λc=>(by cases c))⟩
 exact⟨false,rfl,Aa (λc=>(by cases c)),Aa (λ_=>h)⟩
end
section
open Go.Maps
attribute [local go_sem ↓] wp_at_zero wp_at_succ
def MP:madeCells #[I6 0] 3=#[I6 0,I6 0,I6 0]:=qg
def Z8(w):(Instr.makeSlice 30 (I6 0) (I6 3)).run prog w=.ok (.slice (some ⟨w.heap.size,0,none⟩) 0 3) (w.alloc (.cells #[I6 0,I6 0,I6 0] 3)):=by
 obtain⟨i,d,b,e,O⟩:=info_parts Py;have a:=run_make (P:=prog) w 30 3 i _ underlying30 d b .i64 .i64 0 3 qd qd (by rw[O];omega) qd;rw[a,e];exact congrArg (λc=>Result.ok (Value.slice (some ⟨w.heap.size,0,none⟩) 0 3) (w.alloc (.cells c 3))) MP
def Q8{w:World}{base g}(h:w.heap[g]?=some (.cells #[I6 0,I6 0,I6 0] 3 (0,0)))(a:base<=g):w.ownsRow base 3 1 (.slice (some ⟨g,0,none⟩) 0 3) 0 (Ax []):=
 ⟨rfl,.inr ⟨g,3,_,rfl,a,h,qd,qj,rfl,rfl⟩⟩
def ik{T:List F}{k f}(h:T[k]?=some f):(T.take (k+1)).map (·.tag)=(T.take k).map (·.tag)++[f.tag]:=by
 rw[yZ,h];simp
def Gn(x0 x1 a w):(Instr.index 111 (.agg #[x0,x1,a]) (I6 0)).run prog w=.ok x0 w/\(Instr.index 111 (.agg #[x0,x1,a]) (I6 1)).run prog w=.ok x1 w/\(Instr.index 111 (.agg #[x0,x1,a]) (I6 2)).run prog w=.ok a w:=⟨qg,qg,qg⟩
def gk(xs:List Int)(w:World)(e:Ending)(w':World):Prop:=(∃a c,e=.returned (.slice a xs.length c)/\w'.ownsRow w.heap.size 3 1 (.slice a xs.length c) xs.length (Ax xs))/\Bw w w'
def gR{P:Prop}(h:P:=by
 obtain⟨f,hf⟩:=Ba hk
 first
  | (have _:=tP7
     obtain⟨pv,hp,af⟩:=TR.o 0 f hf)
  |(obtain⟨pv,hp,af⟩:=TR.o 1 f hf)
 simp at hp;subst hp;obtain⟨fb,fo,he,c0,_⟩:=af;injection he with he;subst he;have O:=Aa (ik hf)
 first
  | (have _:=tP7
     obtain⟨n,hn⟩:∃n,n=((T.take 0).map (·.tag)).length:=⟨_,rfl⟩
     obtain⟨xs,ah⟩:∃xs,xs=(T.take 0).map (·.tag):=⟨_,rfl⟩)
  | (obtain ⟨n,hn⟩:∃ n,n=((T.take 1).map (·.tag)).length:=⟨_,rfl⟩
     obtain⟨xs,ah⟩:∃xs,xs=(T.take 1).map (·.tag):=⟨_,rfl⟩)
 rw[<-ah]at ROW hln hn O⊢;rw[<-hn]at ROW hln⊢;have HN:=Aa hn;clear hf hk hn ah TR
 first
  | (have _:=tP7
     obtain⟨j0,j1,j2⟩:(∀w,_)/\(∀w,_)/\(∀w,_):=⟨λw=>(Gn (.pointer (some ⟨fb,fo,none⟩)) (.pointer p1) (.pointer p2) w).1,λw=>(Gn (.pointer (some ⟨fb,fo,none⟩)) (.pointer p1) (.pointer p2) w).2.1,λw=>(Gn (.pointer (some ⟨fb,fo,none⟩)) (.pointer p1) (.pointer p2) w).2.2⟩)
  |(obtain⟨j0,j1,j2⟩:(∀w,_)/\(∀w,_)/\(∀w,_):=⟨λw=>(Gn (.pointer p0) (.pointer (some ⟨fb,fo,none⟩)) (.pointer p2) w).1,λw=>(Gn (.pointer p0) (.pointer (some ⟨fb,fo,none⟩)) (.pointer p2) w).2.1,λw=>(Gn (.pointer p0) (.pointer (some ⟨fb,fo,none⟩)) (.pointer p2) w).2.2⟩)
 go_wp2_with (first|(at_builtin;refine CN (by rfl) (.tmp 13) (.tmp 18) 30 (by rfl) w.heap.size 3 _ 1 8 underlying30 Py (by rfl) (by omega) _ n _ (by rfl) (AF ROW.o (HWR.o _)) (some ⟨_,0,none⟩) 1 1 (by rfl) [I6 f.tag] (by rfl) (λe=>by cases e) (Cv _ _ _ _ (by simp)) (by intro u hu;simp at hu;subst hu;rfl) (by unfold maxLen;omega) (by omega) (by simp;omega) ?_;intro a2 c2 w7 aj ai ak)|fail);obtain⟨T7,B7⟩:=Ah (show w7.ownsRow w.heap.size 3 1 (.slice a2 (n+1) c2) (n+1) (Ax (xs++[f.tag])) by have:=aj.o;rw[VG];simpa using this) ((BR.o.c ((HWR.o _).j BR.o.size)).grown ai.o (by simp;omega) (λg hg=>(ROW.o.lt g hg).1));clear aj ai ak;go_roundw
 first
  | (have _:=tP7
     case rel=>exact⟨1,1,a2,c2,by go_num,rfl,by omega,by rw[O.o,yP,<-HN.o];rfl,by rw[O.o,yP,<-HN.o];exact T7.o,B7.o⟩)
  |(case rel=>exact⟨2,2,a2,c2,by go_num,rfl,by omega,by rw[O.o,yP,<-HN.o];rfl,by rw[O.o,yP,<-HN.o];exact T7.o,B7.o⟩)
 case measure=>(simp[intOf])
 ):P:=h
def zmv(p0 p1 p2 T w)(p:Is w p0 p1 p2 T) :
  Ca 59 #[.agg #[.pointer p0,.pointer p1,.pointer p2]] w (gk (T.map (·.tag)) w):=by
 have l:=Aa p;have D:=p.le;have t:=Z8;clear p;go_enter func59,ntmps59;go_upto_region 2 with fail;refine BF ?_;intro I ai q r;obtain⟨v,x,t2⟩:=Ao q;obtain⟨E,y⟩:=Ah ai (Q8 (base:=w.heap.size) r (WJ _));clear ai q r t;go_wp2_with fail;clear v x t2
 go_loopw [8,3] (λiv C wr=>∃(k:Nat)(b:Int)(a:Option Addr)(c:Nat),iv=I6 b/\b=(k:Int)/\k<=3/\C=.slice a ((T.take k).map (·.tag)).length c/\wr.ownsRow w.heap.size 3 1 (.slice a ((T.take k).map (·.tag)).length c) ((T.take k).map (·.tag)).length (Ax ((T.take k).map (·.tag)))/\Bw w wr) (λiv _ _=>3-(intOf iv).toNat)
 case atStart=>exact⟨0,0,_,3,rfl,rfl,yk _,rfl,y.o,E.o⟩
 case round=>
  obtain⟨k,b,a,c,rfl,af,H,rfl,ah,m⟩:=hrel;obtain⟨ROW,BR,TR⟩:=AA ah m (l.o.cS.d m);have G:=m.size;have hln:((T.take k).map (·.tag)).length<=3:=by rw[yt,Yt];omega
  have HWR:=Aa (λo'=>An.alloc AH o':∀o',Bw wr (wr.alloc o'));clear ah m;rcases(show k=0∨k=1∨k=2∨k=3 by omega) with rfl|rfl|rfl|rfl
  .obtain rfl:b=0:=qd;clear af;by_cases hk:0<T.length
   .have tP7:=trivial;exact gR
   have i:=l.o.z0 qd;subst i;have O:=Aa (show T.take (0+1)=T.take 0 by rw[yT qd,yT qd]);obtain⟨j0,j1,j2⟩:(∀w,_)/\(∀w,_)/\(∀w,_):=⟨λw=>(Gn (.pointer none) (.pointer p1) (.pointer p2) w).1,λw=>(Gn (.pointer none) (.pointer p1) (.pointer p2) w).2.1,λw=>(Gn (.pointer none) (.pointer p1) (.pointer p2) w).2.2⟩
   go_wp2_with fail;go_roundw
   case rel=>exact⟨1,1,a,c,qm,rfl,qd,by rw[O.o],by rw[O.o];exact ROW.o,BR.o⟩
   case measure=>(simp[intOf])
  .obtain rfl:b=1:=qd;clear af;by_cases hk:1<T.length
   .exact gR
   have i:=l.o.z1 qd;subst i;have O:=Aa (show T.take (1+1)=T.take 1 by rw[yT qd,yT qd]);obtain⟨j0,j1,j2⟩:(∀w,_)/\(∀w,_)/\(∀w,_):=⟨λw=>(Gn (.pointer p0) (.pointer none) (.pointer p2) w).1,λw=>(Gn (.pointer p0) (.pointer none) (.pointer p2) w).2.1,λw=>(Gn (.pointer p0) (.pointer none) (.pointer p2) w).2.2⟩
   go_wp2_with fail;go_roundw
   case rel=>exact⟨2,2,a,c,qm,rfl,qd,by rw[O.o],by rw[O.o];exact ROW.o,BR.o⟩
   case measure=>(simp[intOf])
  .obtain rfl:b=2:=qd;clear af;by_cases hk:2<T.length
   .obtain⟨f,hf⟩:=Ba hk;obtain⟨pv,hp,A⟩:=TR.o 2 f hf;simp at hp;subst hp;obtain⟨fb,fo,he,c0,_⟩:=A;injection he with he;subst he;have O:=Aa (ik hf);obtain⟨n,hn⟩:∃n,n=((T.take 2).map (·.tag)).length:=⟨_,rfl⟩
    obtain⟨xs,ak⟩:∃xs,xs=(T.take 2).map (·.tag):=⟨_,rfl⟩
    rw[<-ak]at ROW hln hn O⊢;rw[<-hn]at ROW hln⊢;have HN:=Aa hn;clear hf hk hn ak TR;obtain⟨j0,j1,j2⟩:(∀w,_)/\(∀w,_)/\(∀w,_):=⟨λw=>(Gn (.pointer p0) (.pointer p1) (.pointer (some ⟨fb,fo,none⟩)) w).1,λw=>(Gn (.pointer p0) (.pointer p1) (.pointer (some ⟨fb,fo,none⟩)) w).2.1,λw=>(Gn (.pointer p0) (.pointer p1) (.pointer (some ⟨fb,fo,none⟩)) w).2.2⟩
    go_wp2_with (first|(at_builtin;refine CN qi (.tmp 13) (.tmp 18) 30 qi w.heap.size 3 _ 1 8 underlying30 Py qi qd _ n _ qi (AF ROW.o (HWR.o _)) (some ⟨_,0,none⟩) 1 1 qi [I6 f.tag] qi (λe=>qo) (Cv _ _ _ _ qe) qL qj qd qf ?_;intro a2 c2 w7 aj s B)|fail);obtain⟨T7,B7⟩:=Ah (show w7.ownsRow w.heap.size 3 1 (.slice a2 (n+1) c2) (n+1) (Ax (xs++[f.tag])) by have:=aj.o;rw[VG];simpa using this) ((BR.o.c ((HWR.o _).j BR.o.size)).grown s.o qf (λg hg=>(ROW.o.lt g hg).1));clear aj s B;go_roundw
    case rel=>exact⟨3,3,a2,c2,qm,rfl,qd,by rw[O.o,yP,<-HN.o];rfl,by rw[O.o,yP,<-HN.o];exact T7.o,B7.o⟩
    case measure=>(simp[intOf])
   have i:=l.o.z2 qd;subst i;have O:=Aa (show T.take (2+1)=T.take 2 by rw[yT qd,yT qd]);obtain⟨j0,j1,j2⟩:(∀w,_)/\(∀w,_)/\(∀w,_):=⟨λw=>(Gn (.pointer p0) (.pointer p1) (.pointer none) w).1,λw=>(Gn (.pointer p0) (.pointer p1) (.pointer none) w).2.1,λw=>(Gn (.pointer p0) (.pointer p1) (.pointer none) w).2.2⟩
   go_wp2_with fail;go_roundw
   case rel=>exact⟨3,3,a,c,qm,rfl,qd,by rw[O.o],by rw[O.o];exact ROW.o,BR.o⟩
   case measure=>(simp[intOf])
  obtain rfl:b=3:=qd;clear af;have z:=Aa (show T.take 3=T from yT D);rw[z.o]at ROW⊢;go_wp2_with fail;go_ret;exact⟨⟨a,c,by rw[yt];rfl,ROW.o⟩,BR.o⟩
end
structure VS(fs:List F) (nx cp:Int) (sg:Bool):Prop where
 dI:0<=cp
 aM:cp<=40
 len:(fs.length:Int)<=cp
 aQ:BN 0 fs=true
 cZ:1<=nx
 dJ:nx<=1000001
 low:∀f∈fs,f.tag<nx
 nodup:sg=true->(fs.map Bi).Nodup
def VS.iff{fs nx cp sg}:B_ fs nx cp sg=true↔VS fs nx cp sg:=by
 unfold B_;cases sg with
 |false=>
  rw[XY];simp only[FO,C8,yi,decide_eq_true_eq,Yy];constructor
  .rintro⟨⟨d,a,c,⟨g,f⟩,b,e⟩,O⟩;exact⟨d,a,c,f,b,e,O,λh=>by cases h⟩
  .intro h;exact⟨⟨h.dI,h.aM,h.len,⟨by have:=h.len;have:=h.aM;omega,h.aQ⟩,h.cZ,h.dJ⟩,h.low⟩
 |true=>
  rw[Xz nx fs [] Y1];simp only[FO,C8,yi,decide_eq_true_eq,Yy,yY];constructor
  .rintro⟨⟨d,a,c,⟨g,f⟩,b,e⟩,O,i⟩;exact⟨d,a,c,f,b,e,O,λ_=>i⟩
  intro h;exact⟨⟨h.dI,h.aM,h.len,⟨by have:=h.len;have:=h.aM;omega,h.aQ⟩,h.cZ,h.dJ⟩,h.low,h.nodup rfl⟩
def zoL:∀{fs:List F}{last O:Int},last<=O->BN O fs=true->BN last fs=true
 |[],_,_,_,_=>rfl
 |f::r,last,O,h,hg=>by
  simp only[BN,Hi,yi,decide_eq_true_eq]at hg⊢
  exact⟨⟨by omega,hg.1.2⟩,hg.2⟩
def lW:∀{fs:List F}{last:Int}(i:Nat),BN last fs=true->BN last (fs.eraseIdx i)=true
 |[],_,_,_=>rfl
 |f::r,last,0,h=>by
  simp only[BN,Hi,yi,decide_eq_true_eq]at h
  exact zoL (by omega) h.2
 |f::r,last,i+1,h=>by
  simp only[BN,yi]at h
  simp only[Wa,BN,yi]
  exact⟨h.1,lW i h.2⟩
def ld:∀{fs:List F}{last:Int}{g:F},BN last fs=true->(∀f∈fs,f.tag<g.tag)->last<g.tag->g.tag<=1000000->Aq g.z.data.toList=true->C4 g.s=true->BN last (fs++[g])=true
 |[],last,g,_,_,h1,h2,h3,h4=>by simp[BN,Hi,h1,h2,h3,h4]
 |f::r,last,g,h,hl,h1,h2,h3,h4=>by
  simp only[BN,yi,Yb]at h⊢
  exact⟨h.1,ld h.2 (λx a=>hl x (by simp[a])) (hl f (by simp)) h2 h3 h4⟩
def V9{but a vs}:∀{fs:List F}{last:Int},0<=last->BN last fs=true->¬0<Hb but a vs fs->∀f∈fs,Dk but a vs f=false
 |[],_,_,_,_,f,b=>by simp at b
 |g::r,last,hl,h,ht,f,b=>by
  simp only[BN,Hi,yi,decide_eq_true_eq]at h
  unfold Hb at ht
  split at ht
  .omega
  rcases yG.1 b with rfl|b
  .simpa using ‹¬Dk but a vs f=true›
  exact V9 (last:=g.tag) (by omega) h.2 ht f b
def lJ{but a vs}{fs:List F}(h:∀f∈fs,Dk but a vs f=false)(e:∀f∈fs,f.tag≠but):(a,vs) ∉ fs.map Bi:=by
 intro b;obtain⟨f,c,d⟩:=yz.1 b;have g:=h f c;simp_all[Dk,Lk,V,Bi]
def ji:∀{fs:List F}{last:Int},BN last fs=true->∀f∈fs,Aq f.z.data.toList=true
 |[],_,_,f,a=>by simp at a
 |g::r,last,h,f,a=>by
  simp only[BN,Hi,yi]at h
  rcases yG.1 a with rfl|a
  .exact h.1.2.2.1
  exact ji h.2 f a
def VS.add{fs nx cp sg a vs}(h:VS fs nx cp sg)(k:¬1000000<nx)(hl:(fs.length:Int)<cp)(g:Aq a.data.toList=true)(i:C4 vs=true)(j:sg=true->(a,vs) ∉ fs.map Bi):VS (fs++[⟨nx,a,vs⟩]) (nx+1) cp sg:=by
 refine⟨h.dI,h.aM,qf,ld h.aQ (λf O=>h.low f O) (by have:=h.cZ;show(0:Int)<nx;omega) (by show nx<=1000000;omega) g i,by have:=h.cZ;omega,qd,?_,?_⟩
 .intro f O;rcases yn.1 O with O|O
  .have:=h.low f O;omega
  simp at O;subst O;show nx<nx+1;omega
 intro c;rw[yF,yK];refine⟨h.nodup c,qe,λx b y d e=>?_⟩;simp at d;subst d;rw[e]at b;exact j c b
def VS.drop{fs nx cp sg}(h:VS fs nx cp sg)(i):VS (fs.eraseIdx i) nx cp sg:=by
 refine⟨h.dI,h.aM,?_,lW i h.aQ,h.cZ,h.dJ,λf a=>h.low f (K5 a),λb=>?_⟩
 .have d:=h.len;have c:(fs.eraseIdx i).length<=fs.length:=List.length_eraseIdx_le _ _;omega
 exact(h.nodup b).sublist ((Wj _ _).map Bi)
def Eu(fs:List F)(nx cp:Int)(sg:Bool)(r:C6):Prop:=r.am=1∨(VS r.fs r.nx r.cp r.sg/\nx<=r.nx/\r.cp=cp/\r.sg=sg/\(r.am≠0->r.fs=fs/\r.nx=nx))
def Eu.same{fs nx cp sg}(h:VS fs nx cp sg)(k t):Eu fs nx cp sg ⟨fs,nx,cp,sg,k,t⟩:=.inr ⟨h,Y8 _,rfl,rfl,λ_=>⟨rfl,rfl⟩⟩
def ve{fs}(h:BN 0 fs=true):∀f∈fs,f.tag≠0:=λf a=>by
 have:=Qd h f a;omega
def wC{fs nx cp sg}(a vs)(h:VS fs nx cp sg):Eu fs nx cp sg (Dl fs nx cp sg a vs):=by
 cases b:(B_ fs nx cp sg&&(Aq a.data.toList&&C4 vs))
 .rw[SE b];exact .inl rfl
 simp only[yi]at b;obtain⟨g,c,d⟩:=b;rw[Sv g c d];unfold BZ;split
 .exact Eu.same h _ _
 rename_i f;split
 .exact Eu.same h _ _
 rename_i k;split
 .exact Eu.same h _ _
 rename_i e;refine .inr ⟨h.add e (by have:=h.len;omega) c d (λj=>?_),by show nx<=nx+1;omega,rfl,rfl,λi=>absurd rfl i⟩;subst j;exact lJ (but:=0) (V9 (Y8 0) h.aQ f) (ve h.aQ)
def xe{fs nx cp sg}(tag)(h:VS fs nx cp sg):Eu fs nx cp sg (CV fs nx cp sg tag):=by
 have hv:=VS.iff.2 h;cases a:AD tag fs with
 |none=>
  rw[Tc hv a];exact Eu.same h _ _
 |some i=>
  rw[S8 hv a];exact .inr ⟨h.drop i,Y8 _,rfl,rfl,λb=>absurd rfl b⟩
def kM:∀{fs:List F}{last:Int}{tag:Int}{i:Nat},BN last fs=true->AD tag fs=some i->∀f∈fs.eraseIdx i,f.tag≠tag
 |[],_,_,_,_,h,_,_=>by simp[AD]at h
 |g::r,last,tag,i,hg,h,f,a=>by
  simp only[BN,yi]at hg
  unfold AD at h
  split at h
  .rename_i O
   injection h with h
   subst h
   have:=Qd hg.2 f a
   omega
  rename_i O
  cases b:AD tag r with
  |none=>rw[b]at h;simp at h
  |some j=>
   rw[b]at h
   simp at h
   subst h
   simp only[Wa]at a
   rcases yG.1 a with rfl|a
   .exact O
   exact kM hg.2 b f a
def zk{fs nx cp sg}(tag vs)(h:VS fs nx cp sg):Eu fs nx cp sg (BP fs nx cp sg tag vs):=by
 have hv:=VS.iff.2 h;cases b:C4 vs
 .rw[SD (by rw[b,Wg])];exact .inl rfl
 cases a:AD tag fs with
 |none=>
  rw[S9 hv b a];exact Eu.same h _ _
 |some i=>
  have O:=Ot a;obtain⟨f,d⟩:=Ba O;rw[Ti hv b a d];unfold JH;split
  .exact Eu.same h _ _
  rename_i k;split
  .exact Eu.same h _ _
  rename_i j;have c:(fs.eraseIdx i).length=fs.length-1:=List.length_eraseIdx_of_lt O;refine .inr ⟨(h.drop i).add j (by have:=h.len;omega) (ji h.aQ f (yd d)) b (λl=>?_),by show nx<=nx+1;omega,rfl,rfl,λg=>absurd rfl g⟩;subst l;exact lJ (but:=tag) (λx e=>V9 (Y8 0) h.aQ k x (K5 e)) (kM h.aQ a)
section
attribute [local go_sem ↓] wp_at_zero wp_at_succ
def Fd{α β:Type}(g:α->β){l:List α}{j x}(h:l[j]?=some x):(l.take (j+1)).map g=(l.take j).map g++[g x]:=by
 rw[yZ,h];simp
def zim(rs fs a c fa fc){q}(w)(hv:Fa q w a rs)(hf:Bz w fa fs)(b:Cy rs fs=true) :
  Ca 50 #[.slice a rs.length c,.slice fa fs.length fc] w (Om (EY fs 0 rs) w):=by
 obtain⟨HV,HF,HB,HA,HS⟩:=DE hv hf (λk=>zg3 b k) (λr(h:r∈rs)=>kE b h) (λr(h:r∈rs)=>Mc (Ll b).1 h);have aA:=(Ll b).2.2;have aO:=im (Ll b).1;clear hv hf b;go_enter func50,ntmps50;go_wp2_with fail
 go_loopw [14,5] (λiv sv wr=>∃(k:Nat)(u:Option Addr)(E:Nat)(M:List H5),iv=I6 (k:Int)/\k<=rs.length/\sv=.slice u M.length E/\M.map Prod.fst=EY fs 0 (rs.take k)/\Iw wr w.heap.size w.heap.size u E M/\Bw w wr) (λiv _ _=>rs.length-(intOf iv).toNat)
 case atStart=>exact⟨0,none,0,[],rfl,yk _,rfl,rfl,Iw.nil _ _ _,An⟩
 case round=>
  obtain⟨k,u,E,M,rfl,aS,rfl,hM,p,f⟩:=hrel;obtain⟨T,ROW,m⟩:=AA hM p f;have aW:=f.size;clear hM p f;by_cases hk:k<rs.length
  .obtain⟨r,b⟩:=Ba hk;obtain⟨rb,ro,a_p,c_p,a_e,c_e,aG,aF,rfl,_,c0,c1,c2,c3,c4,ax,_,_,_⟩:=(HV.o.d m.o).get b;have ao:=yd b;obtain⟨aH,aD,_⟩:=HS.o r ao;obtain⟨au,aJ,aL⟩:=AA (λw'(h:Bw wr w')=>lG r fs a_p c_p a_e c_e aG aF fa fc w' (ax.d h) ((HF.o.d m.o).d h) aH aD aA) (zo fs b) (HA.o r ao);have z0:(0:Int)<=(k:Int):=qd;have z1:(k:Int)<(rs.length:Int):=qd;clear b ao ax aD;go_upto_region 5 with fail;refine Be ?_;intro w1 v aB;obtain⟨b0,b1,b2,b3,b4⟩:=DN aB;obtain⟨H1,R1,B1⟩:=AA v (ROW.o.C v) (m.o.thn v);clear v aB c0 c1 c2 c3 c4 ROW m;go_wp2_with fail;refine(au.o w1 H1.o).j ?_;rintro e w2 ⟨⟨pa,pc,P,rfl,hP,I⟩,z⟩;obtain⟨PP,HP,R2,B2⟩:=Bn hP I (R1.o.C z) (B1.o.thn z);have aV:P.length<=64000:=by have:=congrArg List.length I;rw[yt]at this;rw[this];exact aL.o.1
   have aU:M.length<=1024000:=by have:=congrArg List.length T.o;rw[yt]at this;rw[this];exact(HB.o k).1
   have aQ:=z.size;have aa:=H1.o.size;clear hP I z b0 b1 b2 b3 b4 R1 B1 au H1;go_wp2_with fail
   go_loopw [27,5] (λiv sv wr=>∃(j:Nat)(A:Option Addr)(D:Nat)(N:List H5),iv=I6 (j:Int)/\j<=P.length/\sv=.slice A N.length D/\N.map Prod.fst=M.map Prod.fst++(P.take j).map (λy=>(⟨(k:Int),y.1.K⟩:It))/\Iw wr w.heap.size w.heap.size A D N/\MO wr w.heap.size w.heap.size pa pc P/\Bw w wr) (λiv _ _=>P.length-(intOf iv).toNat)
   case atStart=>exact⟨0,u,E,M,rfl,yk _,rfl,qe,R2.o,⟨CA PP.o.row qd,λx W=>(PP.o.all x W).lower qd⟩,B2.o⟩
   case round=>
    obtain⟨j,A,D,N,rfl,aP,rfl,hN,p,aw,f⟩:=hrel;obtain⟨HN,H,s,J⟩:=Bn hN p aw f;have aT:N.length<=1088000:=by have:=congrArg List.length hN;rw[yt,yP,yt,yt,Yt]at this;omega
    have aN:=f.size;clear hN p aw f;by_cases hj:j<P.length
    .obtain⟨y,l⟩:=Ba hj;have aq:=Aa (Fd (λy:Jv=>(⟨(k:Int),y.1.K⟩:It)) l);obtain⟨⟨B,bd⟩,tv,bv⟩:=y;obtain⟨lb,rfl,aX,y0,y1⟩:=s.o.get l;obtain⟨⟨G,Z,e1⟩,⟨ba,bc,e2⟩,U,_⟩:=s.o.all _ (yd l);simp only at e1 e2 U y0 y1 aq;subst e1 e2;have OT:=Aa U;have z2:(0:Int)<=(j:Int):=qd;have z3:(j:Int)<(P.length:Int):=qd;clear l U;go_upto_region 9 with fail;refine Be ?_;intro L i aC;obtain⟨f0,f1⟩:=Az aC;obtain⟨t,P4,B4,aE⟩:=Bn (H.o.C i) (s.o.C i) (J.o.thn i) (AF OT.o i);obtain⟨NX,O⟩:=Ah (show Iv L w.heap.size (⟨(k:Int),B⟩,.slice G B.length Z) from⟨⟨G,Z,rfl⟩,aE.o⟩) (λo'=>An.alloc AH o':∀o',Bw L (L.alloc o'));have aR:=i.size;clear i aC y0 y1 OT aE H s J;go_wp2_with (first|(at_builtin;refine CN qi (.tmp 31) (.tmp 36) 36 qi w.heap.size 45 _ 2 32 underlying36 Vj qi qd _ N.length _ qi (AF t.o.row (O.o _)) (some ⟨_,0,none⟩) 1 1 qi (Fb (⟨(k:Int),B⟩,.slice G B.length Z)) qi (λe=>qo) (Cv _ _ _ _ qe) (zlW NX.o) qj qd qf ?_;intro a3 c3 w8 az n aI)|fail);obtain⟨R8,Y⟩:=Ah (Iw.snoc (t.o.C (O.o _)) (NX.o.C (O.o _)) az.o n.o) (λo g R=>AO (AF t.o.row (O.o o)) (k:=g) R);obtain⟨P8,B8⟩:=Ah (show MO w8 w.heap.size w.heap.size (some ⟨lb,0,none⟩) pc P from⟨Hv (AF P4.o.row (O.o _)) n.o (Y.o _) qh,λx W=>((P4.o.all x W).C (O.o _)).grown n.o (Y.o _) qh qh⟩) ((B4.o.c ((O.o _).j B4.o.size)).grown n.o qf (λg R=>(t.o.row.lt g R).1));clear az n aI Y;go_roundw
     case rel=>exact⟨j+1,a3,c3,_,qm,qd,qe,by rw[yF,HN.o,aq.o,<-yW];rfl,R8.o,P8.o,B8.o⟩
     case measure=>(simp[intOf];omega)
    have ar:j=P.length:=qd;have l:¬(j:Int)<(P.length:Int):=qd;have aM:=Aa (show N.map Prod.fst=EY fs 0 (rs.take (k+1)) by
     rw[HN.o,T.o,aJ.o,ar,yV,<-HP.o,Yv];rfl)
    clear ar;go_wp2_with fail;go_roundw
    case rel=>exact⟨k+1,A,D,N,qm,qd,rfl,aM.o,H.o,J.o⟩
    case measure=>(simp[intOf];omega)
  have ay:k=rs.length:=qd;have l:¬(k:Int)<(rs.length:Int):=qd;have aK:=Aa (show EY fs 0 rs=M.map Prod.fst by rw[T.o,ay,yV]);clear ay;go_wp2_with fail;go_ret;exact Om.mk aK.o ROW.o m.o
def jY:(prog.info? 3).map (λi=>(i.zero,i.size,i.bytes))=some (some (I6 0),1,8):=qg
def fT{w w':World}{r b j}(h:w.grownBy w' r)(hl:b<w.heap.size)(a:some b≠r):w'.cell? ⟨b,j,none⟩=w.cell? ⟨b,j,none⟩:=by
 unfold World.cell?;rw[h.block b hl a]
def jQ(w:World)(o n)(h:w.heap.size=n):(w.alloc o).heap[n]?=some o:=by
 subst h;exact heap_alloc_new _ _
def TK:List Value:=[.func (.func 35) #[] #[],.func (.func 36) #[] #[],.func (.func 37) #[] #[],.func (.func 39) #[] #[]]
def f8:(prog.info? 78).map (·.size)=some 4:=qg
def i6:∀v∈TK,v.oneCell'=true:=by
 intro v hv;simp only[TK,yG,YF,or_false]at hv;exact Zv
def DV(h:Int)(rs:List Ru):List Int:=rs.map λ_=>h
def jC(h){rs:List Ru}{k r}(e:rs[k]?=some r):DV h (rs.take (k+1))=DV h (rs.take k)++[h]:=Fd _ e
def Zn(i:Nat)(x:Ru)(a1 d c a O b w) :
  Ca 35 #[I6 (i:Int),.agg #[.string x.name,I6 x.W,.slice a1 x.v.length d,.slice c x.w.length a,.slice O x.E.length b]] w λe w'=>e=.returned (I6 0)/\Bw w w':=by
 go_enter func35,ntmps35;go_wp2;go_ret;exact⟨rfl,Aj⟩
def Zm(i:Nat)(x:Ru)(a1 d c a O b w) :
  Ca 36 #[I6 (i:Int),.agg #[.string x.name,I6 x.W,.slice a1 x.v.length d,.slice c x.w.length a,.slice O x.E.length b]] w λe w'=>e=.returned (I6 1)/\Bw w w':=by
 go_enter func36,ntmps36;go_wp2;go_ret;exact⟨rfl,Aj⟩
def rG{P:Prop}(h:P:=by
 have B0:=Zh w;have HC:=Aa hC;have aO:∀w:World,(Instr.field 80 (.agg #[.int .i64 0,.int .i64 0,.int .i64 0]) 0).run prog w=.ok (.int .i64 0) w:=λ_=>by kernel_rfl
 clear hC;go_enter func8,ntmps8
 first
  | (have _:=tP
     go_wp2_with (first|(refine C7 (by rfl) 78 (.tmp 5) (.tmp 9) (by rfl) w.heap.size TK (by rfl) (by rfl) _ 78 (jQ _ _ _ rfl) (by rfl) f8 i6 ?_;intro w0 hb0 ay;have ar:Below w.heap.size w w0:=(B0 _).c (ay.o.d (yu _));have O:=JS hb0.o 0 _ rfl;rw[Yc]at O;have aD:w.heap.size<w0.heap.size:=Ak hb0.o)|fail))
  |(go_wp2_with (first|(refine C7 (by rfl) 78 (.tmp 5) (.tmp 9) (by rfl) w.heap.size TK (by rfl) (by rfl) _ 78 (jQ _ _ _ rfl) (by rfl) f8 i6 ?_;intro w0 hb0 ay;have ar:Below w.heap.size w w0:=(B0 _).c (ay.o.d (yu _));have O:=JS hb0.o 1 _ rfl;rw[Yc]at O;have aD:w.heap.size<w0.heap.size:=Ak hb0.o)|fail))
 refine(HC.o _ ar).rtn λw1 ak=>?_;have aJ:Below w.heap.size w w1:=ar.c (ak.j ar.size)
 first
  | (have _:=tP
     have g0:w1.cell? ⟨w.heap.size,0,none⟩=some (.func (.func 35) #[] #[]):=zab ak O)
  |(have g0:w1.cell? ⟨w.heap.size,1,none⟩=some (.func (.func 36) #[] #[]):=zab ak O)
 have hs1:w.heap.size<w1.heap.size:=yg aD ak.size;go_wp2_with fail;clear ak HC O aD ar hb0 ay;clear aO
 first
  | (have _:=tP
     go_loopw [6,24] (λv i wr=>∃(k:Nat)(a':Option Addr)(c':Nat),k<=rs.length/\i=.int .i64 k/\v=.slice a' k c'/\wr.ownsRow (w.heap.size+1) 3 1 (.slice a' k c') k (Ax (DV 0 (rs.take k)))/\wr.cell? ⟨w.heap.size,0,none⟩=some (.func (.func 35) #[] #[])/\w.heap.size<wr.heap.size/\Below w.heap.size w wr) (λ_ i _=>rs.length-(intOf i).toNat))
  |(go_loopw [6,24] (λv i wr=>∃(k:Nat)(a':Option Addr)(c':Nat),k<=rs.length/\i=.int .i64 k/\v=.slice a' k c'/\wr.ownsRow (w.heap.size+1) 3 1 (.slice a' k c') k (Ax (DV 1 (rs.take k)))/\wr.cell? ⟨w.heap.size,1,none⟩=some (.func (.func 36) #[] #[])/\w.heap.size<wr.heap.size/\Below w.heap.size w wr) (λ_ i _=>rs.length-(intOf i).toNat))
 case atStart=>exact⟨0,none,0,by omega,rfl,rfl,yN _ _ _ _,g0,hs1,aJ⟩
 case round=>
  clear g0 hs1 aJ;obtain⟨k,a',c',hk,rfl,rfl,hown,g0,hws,hb⟩:=hrel;have HO:=Aa hown;clear hown;by_cases aK:k<rs.length
  .obtain⟨x,aF⟩:∃x,rs[k]?=some x:=⟨rs[k],by simp[aK]⟩
   obtain⟨b,o,a1,c1,a2,c2,a3,c3,rfl,_,d0,d1,d2,d3,d4,ax,_,_,_⟩:=(hv.d hb).get aF
   first
    | (have _:=tP
       obtain⟨M,hM⟩:∃M:Int,M=0:=⟨_,rfl⟩
       have HS:=Aa (show DV 0 (rs.take (k+1))=DV 0 (rs.take k)++[M] by rw[hM];exact jC 0 aF))
    | (obtain ⟨M,hM⟩:∃ M:Int,M=1:=⟨_,rfl⟩
       have HS:=Aa (show DV 1 (rs.take (k+1))=DV 1 (rs.take k)++[M] by rw[hM];exact jC 1 aF))
   have R1:=Zh wr
   first
    | (have _:=tP
       have HX:=Aa (λw'=>(show Ca 35 #[.int .i64 (k:Int),.agg #[.string x.name,.int .i64 x.W,.slice a1 x.v.length c1,.slice a2 x.w.length c2,.slice a3 x.E.length c3]] w' _ from by have:=Zn k x a1 c1 a2 c2 a3 c3 w';rwa [<-hM]at this)))
    |(have HX:=Aa (λw'=>(show Ca 36 #[.int .i64 (k:Int),.agg #[.string x.name,.int .i64 x.W,.slice a1 x.v.length c1,.slice a2 x.w.length c2,.slice a3 x.E.length c3]] w' _ from by have:=Zm k x a1 c1 a2 c2 a3 c3 w';rwa [<-hM]at this)))
   clear hM;have hbase:∀g,(Value.slice a' k c').ownBlock=some g->w.heap.size+1<=g/\g<wr.heap.size:=λg hg=>HO.o.lt g hg;have aA:=Aa hbase
   first
    | (have _:=tP
       have g1:∀o,(wr.alloc o).drew.cell? ⟨w.heap.size,0,none⟩=some (.func (.func 35) #[] #[]):=λo=>zab (R1 o).drew g0)
    |(have g1:∀o,(wr.alloc o).drew.cell? ⟨w.heap.size,1,none⟩=some (.func (.func 36) #[] #[]):=λo=>zab (R1 o).drew g0)
   obtain⟨aB,au,aC⟩:=AA (λo=>HX.o (wr.alloc o).drew) (λo=>(R1 o).drew) (λw'(h:Below wr.heap.size wr w')=>AF HO.o h);clear ax R1 HX hbase B0;go_wp2_with fail
   first
    | (have _:=tP
       go_region_held3 (λw'=>w'.cell? ⟨w.heap.size,0,none⟩=some (.func (.func 35) #[] #[])/\w'.cell? ⟨wr.heap.size,0,none⟩=some (.string x.name)/\w'.cell? ⟨wr.heap.size,1,none⟩=some (.int .i64 x.W)/\w'.cell? ⟨wr.heap.size,2,none⟩=some (.slice a1 x.v.length c1)/\w'.cell? ⟨wr.heap.size,3,none⟩=some (.slice a2 x.w.length c2)/\w'.cell? ⟨wr.heap.size,4,none⟩=some (.slice a3 x.E.length c3))
         (first|(go_split_ands;(refine⟨?_,?_,?_,?_,?_,?_⟩<;>first|with_reducible assumption|with_reducible exact ai.o _ _ _ (.inl rfl) (by assumption)|with_reducible exact ai.o _ _ _ (.inr rfl) (by assumption)|with_reducible exact zab ((yX _ _).alloc (yu _) _) (by assumption)|with_reducible exact zab aq (by assumption)|(simp[*];done));done)|fail)
         (first
           |(go_at_call 35;with_reducible refine(aB.o _).rtn λw2 aq=>?_;have am:=(au.o _).c (aq.j (au.o _).size);have af:=Aa am;clear am)
           |(refine Hd (by rfl) (.tmp 29) (.tmp 36) 30 (by rfl) (w.heap.size+1) 3 _ 1 8 underlying30 jY (by rfl) (by omega) _ k _ (by rfl) ((aC.o _ af.o).alloc _) (some ⟨_,0,none⟩) 1 1 (by rfl) [.int .i64 M] (by rfl) (λe=>by cases e) (Cv _ _ _ _ (by simp)) (by simp[Value.oneCell']) (by unfold maxLen;omega) (by omega) (by have:=af.o.size;simp;omega) ?_;intro a4 c4 w3 aw ah aI;have aj:∀b j v,(b=w.heap.size∨b=wr.heap.size)->(w2.alloc (.cells #[.int .i64 M] 3)).cell? ⟨b,j,none⟩=some v->w3.cell? ⟨b,j,none⟩=some v:=(λb j v hb' ao=>by have aG:=yO _ ⟨b,j,none⟩ ao;rw[fT ah.o aG (λe=>by obtain⟨h1,h2⟩:=aA.o b e.y;omega)];exact ao);have ai:=Aa aj;clear aj)
           | fail))
    | (go_region_held3 (λw'=>w'.cell? ⟨w.heap.size,1,none⟩=some (.func (.func 36) #[] #[])/\w'.cell? ⟨wr.heap.size,0,none⟩=some (.string x.name)/\w'.cell? ⟨wr.heap.size,1,none⟩=some (.int .i64 x.W)/\w'.cell? ⟨wr.heap.size,2,none⟩=some (.slice a1 x.v.length c1)/\w'.cell? ⟨wr.heap.size,3,none⟩=some (.slice a2 x.w.length c2)/\w'.cell? ⟨wr.heap.size,4,none⟩=some (.slice a3 x.E.length c3))
         (first|(go_split_ands;(refine⟨?_,?_,?_,?_,?_,?_⟩<;>first|with_reducible assumption|with_reducible exact ai.o _ _ _ (.inl rfl) (by assumption)|with_reducible exact ai.o _ _ _ (.inr rfl) (by assumption)|with_reducible exact zab ((yX _ _).alloc (yu _) _) (by assumption)|with_reducible exact zab aq (by assumption)|(simp[*];done));done)|fail)
         (first
           |(go_at_call 36;with_reducible refine(aB.o _).rtn λw2 aq=>?_;have am:=(au.o _).c (aq.j (au.o _).size);have af:=Aa am;clear am)
           |(refine Hd (by rfl) (.tmp 29) (.tmp 36) 30 (by rfl) (w.heap.size+1) 3 _ 1 8 underlying30 jY (by rfl) (by omega) _ k _ (by rfl) ((aC.o _ af.o).alloc _) (some ⟨_,0,none⟩) 1 1 (by rfl) [.int .i64 M] (by rfl) (λe=>by cases e) (Cv _ _ _ _ (by simp)) (by simp[Value.oneCell']) (by unfold maxLen;omega) (by omega) (by have:=af.o.size;simp;omega) ?_;intro a4 c4 w3 aw ah aI;have aj:∀b j v,(b=w.heap.size∨b=wr.heap.size)->(w2.alloc (.cells #[.int .i64 M] 3)).cell? ⟨b,j,none⟩=some v->w3.cell? ⟨b,j,none⟩=some v:=(λb j v hb' ao=>by have aG:=yO _ ⟨b,j,none⟩ ao;rw[fT ah.o aG (λe=>by obtain⟨h1,h2⟩:=aA.o b e.y;omega)];exact ao);have ai:=Aa aj;clear aj)
           | fail))
   rename_i aH;obtain⟨e0,_⟩:=aH;have aP:=af.o.size;have aN:Below w.heap.size w w3:=((hb.c (af.o.j hb.size)).alloc (by omega) _).grown ah.o (by simp;omega) (λg hg=>by have:=(aA.o g hg).1;omega);have aL:w.heap.size<w3.heap.size:=by
    have h1:=ah.o.size;simp at h1;omega
   first
    | (have _:=tP
       have az:w3.ownsRow (w.heap.size+1) 3 1 (.slice a4 (k+1) c4) (k+1) (Ax (DV 0 (rs.take (k+1)))):=by
         have:=aw.o;rw[HS.o];simpa[Ax] using this)
    | (have az:w3.ownsRow (w.heap.size+1) 3 1 (.slice a4 (k+1) c4) (k+1) (Ax (DV 1 (rs.take (k+1)))):=by
         have:=aw.o;rw[HS.o];simpa[Ax] using this)
   clear ai aw ah aI aB aC g1 d0 d1 d2 d3 d4;go_wp2_with fail;go_roundw
   case rel=>exact⟨k+1,a4,c4,by omega,by go_num,rfl,az,e0,aL,aN⟩
   case measure=>simp[intOf];omega
  go_wp2;go_ret;have aM:k=rs.length:=by omega
  subst aM;have h:=HO.o;rw[yT (yu _)]at h
  first
   | (have _:=tP
      have aE:(DV 0 rs).length=rs.length:=by simp[DV])
   |(have aE:(DV 1 rs).length=rs.length:=by simp[DV])
  refine⟨⟨a',c',by rw[aE];rfl,?_⟩,hb⟩;rw[aE];exact CA h (by omega)
 ):P:=h
def xA(rs a c){q}(w)(hv:Fa q w a rs)(hl:rs.length<=16)(hC:∀w',Below w.heap.size w w'->Ca 41 #[.slice a rs.length c] w' λe O=>e=.returned (.agg #[.int .i64 0,.int .i64 0,.int .i64 0])/\Below w'.heap.size w' O) :
  Ca 8 #[.slice a rs.length c,.int .i64 0] w λe w'=>
   (∃a' c',e=.returned (.slice a' (DV 0 rs).length c')/\w'.ownsRow w.heap.size 3 1 (.slice a' (DV 0 rs).length c') (DV 0 rs).length (Ax (DV 0 rs)))/\Below w.heap.size w w':=by
 have tP:=trivial;exact rG
def vU(rs a c){q}(w)(hv:Fa q w a rs)(hl:rs.length<=16)(hC:∀w',Below w.heap.size w w'->Ca 41 #[.slice a rs.length c] w' λe O=>e=.returned (.agg #[.int .i64 0,.int .i64 0,.int .i64 0])/\Below w'.heap.size w' O) :
  Ca 8 #[.slice a rs.length c,.int .i64 1] w λe w'=>
   (∃a' c',e=.returned (.slice a' (DV 1 rs).length c')/\w'.ownsRow w.heap.size 3 1 (.slice a' (DV 1 rs).length c') (DV 1 rs).length (Ax (DV 1 rs)))/\Below w.heap.size w w':=by
 exact rG
def Ow{rs:List Ru}{a b c:Int}(O:Hid (A8 rs=(0,0,0)))(hx:Hid (A8 rs=(a,b,c)))(h:a≠0:=by decide):False:=by
 have:=O.o.y.c hx.o;simp only[YO]at this;exact h this.1.y
def pK{P:Prop}(h:P:=by
 have HX:Hid (A8 rs=(5,(k:Int),((x.v.length+1+m:Nat):Int))):=show A8 rs=_ from by
  have h1:Ch x=some (x.v.length+1+m):=by rw[HM.o,aH.o,Gw,show DF (Ad x.v) y=false by simp[DF,ao];omega];rfl
  rw[HG.o,HD.o,Mf,ak.o,h1,if_neg (by simp)]
 exact(Ow H0 HX).elim
 ):P:=h
def zil(a:Option Addr)(c:Nat)(rs:List Ru)(q:Option Nat)(w:World)(hv:Fa q w a rs)(hc:rs.length<=c)(aG:EW Ru.le 1048576 rs)(ho:∀x∈rs,H_ x.w)(H0:Hid (A8 rs=(0,0,0))) :
  Ca 102 #[.slice a rs.length c] w λe w'=>e=.returned (NC (A8 rs))/\Bw w w':=by
 obtain⟨hl,aG⟩:=aG;by_cases bu:16<rs.length
 .have aX:(16:Int)<(rs.length:Int):=qd;have HC:Hid (A8 rs=(1,0,0)):=show A8 rs=_ from by unfold A8;rw[if_neg qd]
  exact(Ow H0 HC).elim
 have aX:¬(16:Int)<(rs.length:Int):=qd;have HC:Hid (A8 rs=EJ [] rs 0):=show A8 rs=_ from by unfold A8;rw[if_pos qd]
 obtain⟨bh,bi⟩:=Ah aG ho;clear aG ho;go_enter func102,ntmps102;go_wp2
 go_loopw [17] (λi wr=>∃(k:Nat),k<=rs.length/\i=I6 k/\A8 rs=EJ (rs.take k) (rs.drop k) k/\Rz w.heap.size wr/\Bw w wr) (mz rs.length)
 case atStart=>exact⟨0,qd,rfl,by rw[HC.o];rfl,Rz.aF _ _,Aj⟩
 case round=>
  obtain⟨k,hk,rfl,hG,D,M⟩:=hrel;obtain⟨HG,bc⟩:=Ah hG D;clear hG;by_cases bf:k<rs.length
  .obtain⟨x,N⟩:=Ba bf;have a0:=hv.d M;obtain⟨b,o,n,r,f,g,p,s,rfl,hq,W,c1,c2,c3,c4,aj,t,ai,a5⟩:=a0.get N;have a7:=bh.o x (yd N);have bg:=bi.o x (yd N);have HD:Hid (rs.drop k=x::rs.drop (k+1)):=CF N;have HT:Hid (rs.take (k+1)=rs.take k++[x]):=Mh rs k x N;obtain⟨z,rfl⟩:∃u,u=wr:=⟨wr,rfl⟩
   obtain⟨HP,HE,HA,G⟩:=Bn aj t ai (λw'(A:Bw z w')=>zmp x n r f g p s (q:=q) w' (aj.d A) (t.d A) (ai.d A) a7 bg);have aJ:=Ep.aF z 53 x n r f g p s;have aL:=Aa aJ;clear aj t ai a0 D aJ hq a5;cases O:Am x with
   |some i=>
    rw[O]at G;simp only[IC]at G;have HX:Hid (A8 rs=(1,(k:Int),(i:Int))):=show A8 rs=_ from by
     have h1:A_ (rs.take k) x=(1,(i:Int)):=by unfold A_;rw[O]
     rw[HG.o,HD.o,Mf,h1,if_neg qe]
    exact(Ow H0 HX).elim
   |none=>
    rw[O]at G;simp only[IC]at G;have z0:(0:Int)<=(k:Int):=qd;have z1:(k:Int)<=(c:Int):=qd;go_wp2_with (go_at_call 167;refine(G.o _ Aj).rtn λw1 Z=>?_);have aR:Bw z w1:=Aj.thn Z;have aO:=aL.o.d Z;have aQ:=(bc.o.d Aj).d Z;have a6:=M.thn aR;clear Z
    go_loopw [33] (λi wr=>∃(j:Nat),j<=k/\i=I6 j/\(rs.take k).any (λo=>decide (o.name=x.name))=((rs.take k).drop j).any (λo=>decide (o.name=x.name))/\Ep wr z.heap.size x n r f g p s/\Rz w.heap.size wr/\Bw z wr) (mz k)
    case atStart=>exact⟨0,qd,rfl,rfl,aO,aQ,aR⟩
    case round=>
     clear aR aO aQ a6 W c1 c2 c3 c4;obtain⟨j,hj,rfl,hN,K,D,H⟩:=hrel;obtain⟨HN,HBX,U⟩:=AA hN K D;clear hN;have a4:Bw w wr:=M.thn H;have B:(rs.take k).length=k:=by simp;omega
     by_cases bn:j<k
     .obtain⟨y,R⟩:∃y,(rs.take k)[j]?=some y:=⟨(rs.take k)[j]'(by omega),yH _⟩
      have aI:Fa q wr (some ⟨b,o,none⟩) (rs.take k):=Cr.take (hv.d a4) k;obtain⟨b2,o2,a1,k1,a2,k2,a3,k3,ee,hq,W,c1,c2,c3,c4,_,_,_⟩:=aI.get R;cases ee;have aY:Hid ((rs.take k).drop j=y::(rs.take k).drop (j+1)):=CF R;have bm:∀o,At (wr.alloc o) z.heap.size 0 (.string x.name):=λo=>zab (E6 o) K.1;have ac:z.heap.size<wr.heap.size:=LZ K.1;have v1:(j:Int)<(k:Int):=qd;have v0:(0:Int)<=(j:Int):=qd;clear aI K B;cases T:(y.name.toList==x.name.toList)
      .have HX:Hid ((rs.take k).any (λo=>decide (o.name=x.name))=((rs.take k).drop (j+1)).any (λo=>decide (o.name=x.name))):=show _=_ from by
        rw[EZ]at T;rw[HN.o,aY.o,Kr,T];rfl
       clear D;go_wp2;go_roundw
       case rel=>exact⟨j+1,qd,qm,HX.o,HBX.o.d Aj,U.o.d Aj,H.alloc H.size _⟩
       case measure=>(simp;omega)
      have HX:Hid (A8 rs=(2,(k:Int),0)):=show A8 rs=_ from by
       have h1:A_ (rs.take k) x=(2,0):=by
        rw[EZ]at T;unfold A_;rw[O];simp only;rw[HN.o,aY.o,Kr,T];rfl
       rw[HG.o,HD.o,Mf,h1,if_neg qe]
      exact(Ow H0 HX).elim
     have aM:Hid ((rs.take k).any (λo=>decide (o.name=x.name))=false):=show _=_ from by rw[HN.o,yy qd];rfl
     have bk:Ad x.v<=x.v.length:=WD;obtain⟨bt,bq,bl,a9,aU,aS⟩:=Xx O;obtain⟨aZ,J⟩:=Ah (λw'(A:Bw z w')=>zir x n r f g p s (q:=q) w' (HP.o.d A) qd) (λw'(A:Bw z w')=>zmn x n r f g p s (q:=q) w' (HP.o.d A) (HE.o.d A) (HA.o.d A) a7 O);have br:¬(j:Int)<(k:Int):=qd;obtain⟨q0,q1,q2,q3,q4⟩:=K;clear D a9 aU aS G aL B;by_cases hr:1<=Ad x.v/\Ad x.v<=3
     .have ak:Hid (A_ (rs.take k) x=match AY x with|some i=>(4,(i:Int))|none=>match Ch x with|some i=>(5,(i:Int))|none=>(0,0)):=show A_ (rs.take k) x=_ from by
       unfold A_;rw[O];simp only;rw[aM.o,if_neg qh,if_pos hr];cases AY x with
       |some i=>rfl
       |none=>cases Ch x<;>rfl
      have r0:¬(Ad x.v:Int)<1:=qd;have r1:¬(3:Int)<(Ad x.v:Int):=qd;cases aV:AY x with
      |some i=>
       rw[aV]at J ak;simp only[IC]at J;have bo:(0:Int)<=(i:Int):=qd;have HX:Hid (A8 rs=(4,(k:Int),(i:Int))):=show A8 rs=_ from by rw[HG.o,HD.o,Mf,ak.o,if_neg qe]
       exact(Ow H0 HX).elim
      |none=>
       rw[aV]at J ak;simp only[IC]at J;simp only at ak;go_wp2_with (first|(go_at_call 54;refine(aZ.o _ H).rtn λw2 C=>?_;obtain⟨s0,s1,s2,s3,s4⟩:=HBX.o.d C;have aE:=H.thn C;obtain⟨y0,y1,y2,f0,f1,f2⟩:=(U.o.d C).get)|(go_at_call 168;refine(J.o _ aE).rtn λw3 I=>?_;obtain⟨t0,t1,t2,t3,t4⟩:=(HBX.o.d C).d I;have aK:=aE.thn I;obtain⟨v0,v1,v2,g0,g1,g2⟩:=((U.o.d C).d I).get)|fail);have aP:=(HBX.o.d C).d I;have L:=(U.o.d C).d I;clear q0 q1 q2 q3 q4 s0 s1 s2 s3 s4 t0 t1 t2 t3 t4 y0 y1 y2 f0 f1 f2 v0 v1 v2 g0 g1 g2 C I aE aZ J r0 r1 a4 H
       go_loopw [65] (λi aT=>∃(m:Nat),m<=x.E.length/\i=I6 m/\Ch x=Dc (DF (Ad x.v)) (x.E.drop m) (x.v.length+1+m)/\Ep aT z.heap.size x n r f g p s/\Rz w.heap.size aT/\Bw z aT) (mz x.E.length)
       case atStart=>exact⟨0,qd,rfl,rfl,aP,L,aK⟩
       case round=>
        clear aP L aK;obtain⟨m,hm,rfl,hM,ah,L,af⟩:=hrel;obtain⟨HM,aN,aC⟩:=AA hM ah L;clear hM L;have aW:Bw w wr:=M.thn af;by_cases bj:m<x.E.length
        .obtain⟨y,R⟩:=Ba bj;obtain⟨b4,o4,ab,Y,ee,hq,W,c1,c2,c3,aa⟩:=(HA.o.d af).get R;subst ee;have aH:Hid (x.E.drop m=y::x.E.drop (m+1)):=CF R;have bp:=λo=>zab (E6 o) ah.2.2.1;clear ah;by_cases ao:y.u=2∨y.u=3
         .rcases ao with ao|ao
          all_goals rw[ao]at W
          rotate_left;rotate_left
          all_goals
           by_cases k1:y.k<1
           .exact pK
           by_cases k2:(Ad x.v:Int)<y.k
           .exact pK
           have HX:Hid (Ch x=Dc (DF (Ad x.v)) (x.E.drop (m+1)) (x.v.length+1+(m+1))):=show Ch x=_ from by rw[HM.o,aH.o,Gw,show DF (Ad x.v) y=true by simp[DF];omega];rfl
           go_wp2;go_roundw
           case rel=>exact⟨m+1,qd,qm,HX.o,aN.o.d Aj,aC.o.d Aj,af.alloc af.size _⟩
           case measure=>(simp;omega)
         have bd:¬y.u=2:=λh=>ao (.inl h);have a8:¬y.u=3:=λh=>ao (.inr h);have HX:Hid (Ch x=Dc (DF (Ad x.v)) (x.E.drop (m+1)) (x.v.length+1+(m+1))):=show Ch x=_ from by rw[HM.o,aH.o,Gw,show DF (Ad x.v) y=true by simp[DF,bd,a8]];rfl
         go_wp2;go_roundw
         case rel=>exact⟨m+1,qd,qm,HX.o,aN.o.d Aj,aC.o.d Aj,af.alloc af.size _⟩
         case measure=>(simp;omega)
        have h1:Ch x=none:=by rw[HM.o,yy qd];rfl
        have HX:Hid (A8 rs=EJ (rs.take (k+1)) (rs.drop (k+1)) (k+1)):=show A8 rs=_ from by rw[HG.o,HD.o,Mf,ak.o,h1,if_pos rfl,HT.o]
        clear ah h1;go_wp2;go_roundw
        case rel=>exact⟨k+1,qd,qm,HX.o,aC.o,aW⟩
        case measure=>(simp;omega)
     have ak:Hid (A_ (rs.take k) x=(3,0)):=show A_ (rs.take k) x=_ from by
      unfold A_;rw[O];simp only;rw[aM.o,if_neg qh,if_neg hr]
     have HX:Hid (A8 rs=(3,(k:Int),0)):=show A8 rs=_ from by rw[HG.o,HD.o,Mf,ak.o,if_neg qe]
     exact(Ow H0 HX).elim
  have HX:Hid (A8 rs=(0,0,0)):=show A8 rs=_ from by rw[HG.o,yy qd];rfl
  obtain⟨y0,y1,y2,f0,f1,f2⟩:=D.get;go_wp2;refine bodyPost_ret (v:=.agg #[I6 0,I6 0,I6 0]) (by simp[results,results102,go_sem,y0,y1,y2]) rfl ⟨by rw[HX.o];rfl,?_⟩;exact((M.setCell AH _).setCell AH _).setCell AH _
def mF(rs fs a c fa fc){q}(w)(hv:Fa q w a rs)(u:rs.length<=c)(r:EW Ru.le 1048576 rs)(s:∀x∈rs,H_ x.w)(p:Bz w fa fs)(hl:fs.length<=1048576)(l:∀f∈fs,AJ f)(m:Cy rs fs=true) :
  Ca 64 #[.slice a rs.length c,.slice fa fs.length fc] w λe w'=>e=.returned (.bool true)/\Bw w w':=by
 obtain⟨k,n,_⟩:=Ll m;have b:=Aa (show Ca 49 #[.slice a rs.length c] w λe w'=>e=.returned (.bool true)/\Bw w w' from by
  have i:=vF k;have b:=Aa (zil a c rs q w hv u r s i);rw[i]at b;unfold NC at b;go_enter func49,ntmps49;go_wp2_with (go_at_call 102;with_reducible refine b.o.rtn λj O=>?_);go_ret;exact⟨rfl,O⟩)
 have g:=Aa (λw'(t:Bw w w')=>X8 fa fc fs w' (p.d t) hl l);rw[n]at g;clear p l r s hv m k n;go_enter func64,ntmps64;go_wp2_with fail;refine b.o.rtn λj O=>?_;go_wp2_with fail;refine(g.o j O).rtn λy v=>?_;go_wp2_with fail;go_ret;exact⟨rfl,O.thn v⟩
def zjO(rs fs a c fa fc){q}(w)(hv:Fa q w a rs)(z:rs.length<=c)(m:EW Ru.le 1048576 rs)(n:∀x∈rs,H_ x.w)(g:Bz w fa fs)(hl:fs.length<=1048576)(k:∀f∈fs,AJ f)(b:Cy rs fs=true) :
  Ca 17 #[.slice a rs.length c,.slice fa fs.length fc] w λe w'=>∃a c,e=.returned (.slice a (EY fs 0 rs).length c)/\Bw w w':=by
 obtain⟨s,t⟩:=Ah (mF rs fs a c fa fc w hv z m n g hl k b) (λw'(h:Bw w w')=>zim rs fs a c fa fc w' (hv.d h) (g.d h) b);clear hv g m n k b;go_enter func17,ntmps17;go_wp2_with fail;refine s.o.rtn λr O=>?_;go_wp2_with fail;refine(t.o r O).j ?_;rintro e A ⟨⟨y,p,M,rfl,_,i⟩,l⟩;obtain⟨u,v⟩:=Ah (show M.length=(EY fs 0 rs).length by rw[<-i,yt]) (O.thn l);clear i l O;go_wp2_with fail;go_ret;exact⟨y,p,by rw[u.o];rfl,v.o⟩
def zmB(r fs a_p c_p a_e c_e a_a c_a fa fc){q}(w)(p:Ez q w a_p r.v)(I:Dt q w a_e r.w)(N:FI q w a_a r.E)(az:r.w.length<=c_e)(s:EW Ru.le 1048576 [r])(A:H_ r.w)(n:Bz w fa fs)(hl:fs.length<=1048576)(T:∀f∈fs,AJ f)(O:Cy [r] fs=true) :
  Ca 19 #[.agg #[.string r.name,I6 r.W,.slice a_p r.v.length c_p,.slice a_e r.w.length c_e,.slice a_a r.E.length c_a],.slice fa fs.length fc] w λe w'=>e=.returned (I6 (tokM r fs))/\Bw w w':=by
 have HR:=Aa (λwt(b:Bw w wt)k(h:wt.heap[k]?=some (.cells #[.string r.name,I6 r.W,.slice a_p r.v.length c_p,.slice a_e r.w.length c_e,.slice a_a r.E.length c_a] 53 (0,0)))=>mF [r] fs (some ⟨k,0,none⟩) 1 fa fc wt (Fa.one h (p.d b).ah (I.d b).ah (N.d b).ah az) (yu _) s (by intro x K;simp at K;subst K;exact A) (n.d b) hl T O);obtain⟨J,_,Z⟩:=Ll O;obtain⟨ay,C,_⟩:=Mc J (yp.2 rfl);obtain⟨H,t⟩:=Ah (λw'(b:Bw w w')=>lG r fs a_p c_p a_e c_e a_a c_a fa fc w' (p.d b) (n.d b) ay C Z) (show tokM r fs=(AP r.v fs [⟨[],[]⟩] 0).2 from if_pos O);clear p I N n T s A J C O;go_enter func19,ntmps19;go_upto_region 1 with fail;refine Be ?_;intro w0 i G;obtain⟨R,z,y,u,B⟩:=DN G;obtain⟨m,l,HN⟩:=AA i (λo=>An.alloc AH o:∀o,Bw w0 (w0.alloc o)) (heap_alloc_new w0);have aA:=i.size;clear i G;go_wp2_with fail;refine(HR.o _ (m.o.c ((l.o _).j m.o.size)) _ (HN.o _)).rtn λw1 D=>?_;have g:=Aa (TG (l.o _) (D.j (l.o _).size));have L:=Aa (m.o.thn g.o);have d0:=zab g.o R;have d1:=zab g.o z;have d2:=zab g.o y;have d3:=zab g.o u;have d4:=zab g.o B;clear D R z y u B;go_wp2_with fail;refine(H.o w1 L.o).j ?_;rintro e w2 ⟨⟨a,c,M,rfl,hM,Y⟩,U⟩;have W2:=Aa (L.o.thn U);rw[<-t.o];clear hM Y U H t;go_wp2_with fail;go_ret;exact⟨rfl,W2.o⟩
end
end Go.Proofs.YtikojfajahnhgaaGreat
