import Derived.Test.YtikojfajahnhgaaGreatKby
import Derived.Test.YtikojfajahnhgaaGreatKbz
import Derived.Test.YtikojfajahnhgaaGreatKbv
set_option linter.all false
set_option maxHeartbeats 12800000
set_option maxRecDepth 100000
namespace Go.Proofs.YtikojfajahnhgaaGreat
attribute [local simp] At I6 Pn mzI
attribute [local go_sem] At I6 Pn
open Go.RowKit Go.Proofs.Tryz
variable{P:Prop}
section
attribute [local go_sem ↓] wp_at_zero wp_at_succ
abbrev JD(L:List It):Prop:=L.Pairwise λx y=>BJ x y<0
def Jg(A B:List It)(k j:Nat):Prop:=∀y∈B.take j,∀x∈A.drop k,BJ y x<0
def rD{x y z}(a:BJ x y<0)(b:BJ y z<0):BJ x z<0:=N5.lt x y z qd qd (.inl a)
def f_{A:List It}{k x}(h:A[k]?=some x):A.drop k=x::A.drop (k+1):=by
 obtain⟨hl,rfl⟩:=yf.1 h;exact(List.getElem_cons_drop ..).ai
def Jg.more{A B k j x y}(h:Jg A B k j)(b:JD A)(c:A[k]?=some x)(d:B[j]?=some y)(a:BJ y x<0):Jg A B k (j+1):=by
 intro z O u hu;rw[yY,d]at O;rcases yr.1 O with O|O
 .exact h z O u hu
 have e:z=y:=qA;subst e;have hd:(A.drop k).Pairwise λx y=>BJ x y<0:=b.sublist (List.drop_sublist _ _);rw[f_ c]at hu hd;rcases yO.1 hu with rfl|hu
 .exact a
 exact rD a ((WT.1 hd).1 u hu)
def Jg.next{A B k j}(h:Jg A B k j):Jg A B (k+1) j:=λy b x a=>h y b x (by rw[<-List.drop_drop]at a;exact List.mem_of_mem_drop a)
def Jg.has{A B k j x}(h:Jg A B k j)(c:JD B)(d:A[k]?=some x)(l:∀y,B[j]?=some y->¬BJ y x<0):GL B x=true↔∃y,B[j]?=some y/\BJ y x=0:=by
 rw[i_];constructor
 .intro m;obtain⟨i,a⟩:=YD m;have o:=(yf.1 a).1;rcases Nat.lt_trichotomy i j with O|rfl|O
  .have Y:x∈B.take j:=yd (i:=i) (by rw[Wl O];exact a);have:=h x Y x (by rw[f_ d];simp);rw[UQ]at this;omega
  .exact⟨x,a,UQ x⟩
  obtain⟨y,b⟩:∃y,B[j]?=some y:=⟨B[j]'(by omega),qe⟩
  refine absurd ?_ (l y b);obtain⟨n,rfl⟩:=yf.1 b;obtain⟨f,g⟩:=yf.1 a;rw[<-g];exact YT.1 c j i n f O
 rintro⟨y,b,e⟩;rw[<-RV e];exact yd b
def zo1{A B:List It}{k x}(h:A[k]?=some x):FM (A.take (k+1)) B=FM (A.take k) B++(if GL B x=true then [] else [x]):=by
 unfold FM;rw[yY,h,yQ];congr 1
 cases a:GL B x<;>simp[a]
def Mu(L:List It):Prop:=L.length<=1024000/\∀y∈L,y.al.length<=6
def oY(h:P:=by
 have k0:=zab W9.o g0;have k1:=zab W9.o g1;have W1:=Aa (BL.o.aj W9.o);clear g0 g1;go_upto_region 9 with fail;go_wp2_with fail
 refine(zi5 ⟨x.au,x.al⟩ ta tc _ (T1.o.J W1.o) (by show x.al.length<=1048576;omega)).ac ?_;rintro e w9 ⟨⟨a9,c9,rfl,aq⟩,ak⟩;have W2:=Aa (W1.o.aj ak);obtain⟨R4,B4,NX,ah⟩:=BE (R1.o.ar W2.o) (B1.o.aj W2.o) (show Gs w9 w.heap.size (x,.slice a9 x.al.length c9) from⟨⟨a9,c9,rfl⟩,DT aq (by have:=B1.o.size;have:=W1.o.size;omega)⟩) (λo'=>Aj.alloc AA o':∀o',Bw w9 (w9.alloc o'));have aH:=ak.size;have aE:=B4.o.size;clear aq ak;go_wp2_with (first|(at_builtin;refine EU (by rfl) (.tmp 42) (.tmp 45) 36 (by rfl) w.heap.size 45 _ 2 32 underlying36 RO (by rfl) (by omega) _ M.length _ (by rfl) (Bg R4.o.row (ah.o _)) (some ⟨_,0,none⟩) 1 1 (by rfl) (Dk (x,.slice a9 x.al.length c9)) (by rfl) (λe=>by cases e) (Et _ _ _ _ (by simp)) (mI NX.o) (by unfold maxLen;omega) (by omega) (by simp;omega) ?_;intro a3 c3 w8 av aj az)|fail);obtain⟨R8,B8⟩:=Ak (Iw.snoc (R4.o.ar (ah.o _)) (NX.o.ar (ah.o _)) av.o aj.o) ((B4.o.j ((ah.o _).ac B4.o.size)).grown aj.o (by simp;omega) (λg hg=>(R4.o.row.lt g hg).1));clear av aj az;go_roundw
 case rel=>exact⟨k+1,m,a3,c3,_,by go_num,by omega,rfl,ay,AM.o.next,by simp,by rw[yJ,HM.o,MT.o,if_neg NO.o];rfl,R8.o,B8.o⟩
 case measure=>(simp[intOf];omega)
 ):=h
def ld(A B a b c d w)(hA:Ha w a A)(hB:Ha w b B)(bA:Mu A)(bB:Mu B)(sA:JD A)(sB:JD B) :
  Ca 52 #[.slice a A.length c,.slice b B.length d] w (JT (FM A B) w):=by
 obtain⟨HA,HB,TA,TB,SA,SB⟩:=Hl hA hB bA.2 bB.2 sA sB;have aP:=bA.1;have aK:=bB.1;clear hA hB bA bB sA sB;go_enter func52,ntmps52;go_wp2_with fail
 go_loopw [11,6,5] (λiv G sv wr=>∃(k j:Nat)(U:Option Addr)(R:Nat)(M:List Eh),iv=I6 (k:Int)/\k<=A.length/\G=I6 (j:Int)/\j<=B.length/\Jg A B k j/\sv=.slice U M.length R/\M.map Prod.fst=FM (A.take k) B/\Iw wr w.heap.size w.heap.size U R M/\Bw w wr) (λiv _ _ _=>A.length-(intOf iv).toNat)
 case atStart=>exact⟨0,0,none,0,[],rfl,yA _,rfl,yA _,(λy i=>by simp at i),rfl,rfl,Iw.nil _ _ _,Aj⟩
 case round=>
  obtain⟨k,j,U,R,M,rfl,aM,rfl,aG,ar,rfl,hM,aD,hb⟩:=hrel;obtain⟨HM,ROW,W,AH⟩:=BE hM aD hb ar;have aN:M.length<=1024000:=by
   have h1:=congrArg List.length hM;rw[yp]at h1;have h2:(FM (A.take k) B).length<=(A.take k).length:=Yd _ _;rw[Yo]at h2;omega
  have aO:=hb.size;clear hM aD hb ar;by_cases hk:k<A.length
  .obtain⟨x,C⟩:=AJ hk;obtain⟨xb,xo,ta,tc,rfl,x0,x1,xt⟩:=(HA.o.J W.o) k x C;have XT:=Aa xt;have aL:x.al.length<=6:=TA.o x (yd C);obtain⟨MT,aB,aF⟩:=AQ (zo1 (B:=B) C) (λ(j:Nat)(y:It)(h:Jg A B k j)(i:B[j]?=some y)(f:BJ y x<0)=>h.more SA.o C i f) (λ(j:Nat)(h:Jg A B k j)(hn:∀y,B[j]?=some y->¬BJ y x<0)=>h.has SB.o C hn);have z0:(0:Int)<=(k:Int):=qd;have z1:(k:Int)<(A.length:Int):=qd;clear C xt;go_upto_region 6 with fail;refine Bt ?_;intro w1 I aC;obtain⟨f0,f1⟩:=Ay aC;obtain⟨l,T⟩:∃l,l=wr.heap.size:=⟨_,rfl⟩
   rw[<-T]at f0;rw[<-T]at f1;(try rw[<-T]);obtain⟨R1,B1,T1⟩:=AQ (ROW.o.ar I) (W.o.aj I) (XT.o.J I);have aa:=I.size;clear I aC x0 x1 XT ROW W T
   go_loopw [6] (λG wr=>∃(m:Nat),G=I6 (m:Int)/\m<=B.length/\Jg A B k m/\Bw w1 wr) (λG _=>B.length-(intOf G).toNat)
   case atStart=>exact⟨j,rfl,aG,AH.o,Aj⟩
   case round=>
    obtain⟨m,rfl,ay,ar,v⟩:=hrel;obtain⟨AM,BL⟩:=Ak ar v;have g0:=zab v f0;have g1:=zab v f1;have n:=Aa ((Yw wr.heap.size wr).drew);clear ar f0 f1;have q0:(0:Int)<=(m:Int):=qd;by_cases hm:m<B.length
    .obtain⟨y,i⟩:=AJ hm;obtain⟨yb,q,u,t,rfl,p,r,yt⟩:=(HB.o.J (B1.o.aj v)) m y i;have hy6:y.al.length<=6:=TB.o y (yd i);have q1:(m:Int)<(B.length:Int):=qd;have q2:((m:Int)==(B.length:Int))=false:=by simp;omega
     obtain⟨K,L⟩:=Ak (λw'(h:Bw wr w')=>zo6 y x u ta t tc w' (yt.J h) ((T1.o.J BL.o).J h) qd) (λw'(h:Bw wr w')=>zoI y x u ta t tc w' (yt.J h) ((T1.o.J BL.o).J h) qd);clear yt v;by_cases f:BJ y x<0
     .have ML:=Aa (aB.o m y AM.o i f);have Z:decide (BJ y x<0)=true:=decide_eq_true f;clear i f L;unfold Ml at K;go_wp2_with fail
      go_region_held3 (λw'=>At w' yb (q+m*2) (I6 y.au)/\At w' yb (q+m*2+1) (.slice u y.al.length t)/\At w' l 0 (I6 x.au)/\At w' l 1 (.slice ta x.al.length tc)) (first|exact⟨p,r,g0,g1⟩|exact⟨zab O p,zab O r,zab O g0,zab O g1⟩) ((go_at_call 103;refine(K.o _ (n.o)).an λE H=>?_;have O:Bw wr E:=Kn (n.o) (H.ac (n.o).size);rw[Z]))
      go_wp2_with fail;go_roundw
      case rel=>exact⟨m+1,ql,qd,ML.o,BL.o.aj O⟩
      case measure=>(simp[intOf];omega)
     have N:=Aa (aF.o m AM.o (λz s=>by rw[i]at s;cases s;omega));have Z:decide (BJ y x<0)=false:=decide_eq_false f;unfold Ml at K L;by_cases D:BJ y x=0
     .have e2:decide (BJ y x=0)=true:=decide_eq_true D;have aJ:=Aa (N.o.2 ⟨y,i,D⟩);clear i f D N;go_wp2_with fail
      go_region_held3 (λw'=>At w' yb (q+m*2) (I6 y.au)/\At w' yb (q+m*2+1) (.slice u y.al.length t)/\At w' l 0 (I6 x.au)/\At w' l 1 (.slice ta x.al.length tc)) (first|exact⟨p,r,g0,g1⟩|exact⟨zab O p,zab O r,zab O g0,zab O g1⟩) ((go_at_call 103;refine(K.o _ (n.o)).an λE H=>?_;have O:Bw wr E:=Kn (n.o) (H.ac (n.o).size);rw[Z]))
      go_wp2_with fail;have u0:=zab O p;have u1:=zab O r;have u2:=zab O g0;have u3:=zab O g1
      go_region_held3 (λw'=>At w' yb (q+m*2) (I6 y.au)/\At w' yb (q+m*2+1) (.slice u y.al.length t)/\At w' l 0 (I6 x.au)/\At w' l 1 (.slice ta x.al.length tc)) (first|exact⟨u0,u1,u2,u3⟩|exact⟨zab Y p,zab Y r,zab Y g0,zab Y g1⟩) ((go_at_call 104;refine(L.o _ (O.drew)).an λw8 au=>?_;have Y:Bw wr w8:=Kn (O.drew) (au.ac (O.drew).size);rw[e2]))
      go_wp2_with fail;have W1:=Aa (BL.o.aj Y);go_roundw
      case rel=>exact⟨k+1,m,U,R,M,ql,qd,rfl,ay,AM.o.next,rfl,by rw[HM.o,MT.o,if_pos aJ.o,yM],R1.o.ar W1.o,B1.o.aj W1.o⟩
      case measure=>(simp[intOf];omega)
     have e2:decide (BJ y x=0)=false:=decide_eq_false D;have NO:=Aa (show¬GL B x=true fromλh=>by
      obtain⟨z,s,e⟩:=N.o.1 h;rw[i]at s;cases s;exact D e)
     clear i f D N;go_wp2_with fail
     go_region_held3 (λw'=>At w' yb (q+m*2) (I6 y.au)/\At w' yb (q+m*2+1) (.slice u y.al.length t)/\At w' l 0 (I6 x.au)/\At w' l 1 (.slice ta x.al.length tc)) (first|exact⟨p,r,g0,g1⟩|exact⟨zab O p,zab O r,zab O g0,zab O g1⟩) ((go_at_call 103;refine(K.o _ (n.o)).an λE H=>?_;have O:Bw wr E:=Kn (n.o) (H.ac (n.o).size);rw[Z]))
     go_wp2_with fail;have u0:=zab O p;have u1:=zab O r;have u2:=zab O g0;have u3:=zab O g1
     go_region_held3 (λw'=>At w' yb (q+m*2) (I6 y.au)/\At w' yb (q+m*2+1) (.slice u y.al.length t)/\At w' l 0 (I6 x.au)/\At w' l 1 (.slice ta x.al.length tc)) (first|exact⟨u0,u1,u2,u3⟩|exact⟨zab Y p,zab Y r,zab Y g0,zab Y g1⟩) ((go_at_call 104;refine(L.o _ (O.drew)).an λw8 au=>?_;have Y:Bw wr w8:=Kn (O.drew) (au.ac (O.drew).size);rw[e2]))
     have W9:=Aa (show Bw wr _ from Y);exact oY
    have q1:¬(m:Int)<(B.length:Int):=qd;have q2:((m:Int)==(B.length:Int))=true:=by simp;omega
    have NO:=Aa (show¬GL B x=true fromλh=>by
     obtain⟨z,s,e⟩:=(aF.o m AM.o (λz s=>by have:=(yf.1 s).1;omega)).1 h;have:=(yf.1 s).1;omega)
    clear v;go_wp2_with fail;go_region;go_wp2_with fail;go_region;have W9:=Aa (show Bw wr _ from n.o.drew);exact oY
  have aA:k=A.length:=qd;have i:¬(k:Int)<(A.length:Int):=qd;have aI:=Aa (show FM A B=M.map Prod.fst by rw[HM.o,aA,yW]);clear aA;go_wp2_with fail;go_ret;exact JT.mk aI.o ROW.o W.o
end
section
open Go.Maps
def T8{adr U cb nb wb w}:∀{l:List Ap}{a:CT l},Ey adr U cb nb wb l w a->∀g,E4 nb wb l g->∀c t d,w.heap[g]?≠some (.cells c t d)
 |[],_,h,g,b=>by
  rcases b with rfl|rfl
  .exact h.now.aV
  .exact h.news.aV
 |(.inl _,_)::_,_,h,g,b=>by
  rcases b with rfl|b
  .exact h.2.1.aV
  .exact T8 h.2.2 g b
 |(.inr _,_)::_,_,h,g,b=>by
  rcases b with rfl|rfl|b
  .exact h.2.1.aV
  .exact h.2.2.1.aV
  exact T8 h.2.2.2 g b
def MK.St.nc{m:MK}{adr U vw g old w}(h:m.St adr U vw g old w):∀x,m.S x->∀c t e,w.heap[x]?≠some (.cells c t e):=by
 cases m with
 |inl O=>
  obtain⟨R,c⟩:=O;obtain⟨⟨a,f,_⟩,_⟩:=h;exactλx d=>T8 f x (He.2 d)
 |inr t=>
  obtain⟨K,M,_,_,b⟩:=h.2.ex;rintro x (rfl|rfl)
  .exact b.now.aV
  exact b.news.aV
structure JH(N:NT) (rs:List Ru) (ms:List Int):Prop where
 len:N.Ms.length=rs.length
 bu:∀(i:Nat)(m:MK)(r:Ru),N.Ms[i]?=some m->rs[i]?=some r->∃d,ms[i]?=some d/\m.X.map Cx.cp=Bz r.af [] 0/\m.bg d
structure FO(N:NT) (rs:List Ru) (ms:List Int) (adr:F->Addr) (U fs fo:List F) (nx:Int) (V:List Value) (olds:List (List Kt)) (n:Nat) (D:DataW Unit) (w:World):Prop where
 st:Eb N adr U fs V olds w
 aN:JH N rs ms
 mp:w.ownsMap prog 3 Bx N.fb n D
 mv:Gh adr fs D
 low:∀f∈U,f.tag<nx
 tg:∀f∈U,∀g∈U,f.tag=g.tag->f=g
 bu:∀f∈fs,adr f=⟨(adr f).block,0,none⟩
 rd:∀f∈fs,Cq f/\AV f
 cX:∀f∈fo,f∈U
 bC:∀(i:Nat)(r:Ru)(old:List Kt),rs[i]?=some r->olds[i]?=some old->old.Perm ((FL r fo).map (Ab adr))
def Eb.cH{N adr U fs V a w rs n}(h:Eb N adr U fs V a w)(k:JH N rs n){i:Nat}{m r}(c:N.Ms[i]?=some m)(g:rs[i]?=some r):BV (m.X.map (Cv (N.vw V fs))) []=FL r fs/\∀T∈FL r fs,T.length<=3/\∀f∈T,f∈U:=by
 have O:=yd c;obtain⟨o,l,j⟩:=h.bx.pre h.lk O;obtain⟨d,_,Y,_⟩:=k.bu i m r c g;have e:=TS Y l;refine⟨e,λT b=>?_⟩;rw[<-e]at b;exact m.ch (h.ok.ok m O) j b
def JH.at{N rs b}(h:JH N rs b){i:Nat}{r}(a:rs[i]?=some r):∃m,N.Ms[i]?=some m:=⟨N.Ms[i]'(by rw[h.len];exact(yf.1 a).1),qe⟩
def FO.J{N rs b adr U fs c nx V a n D w w'}(h:FO N rs b adr U fs c nx V a n D w)(d:Bw w w'):FO N rs b adr U fs c nx V a n D w':=
 ⟨h.st.J d,h.aN,Ii h.mp (d.block _ h.mp.lt),h.mv,h.low,h.tg,h.bu,h.rd,h.cX,h.bC⟩
def FO.follow{N rs L adr U fs fo nx cp sg V d n D w o a c gs nx'}(h:FO N rs L adr U fs fo nx V d n D w)(hv:VS fs nx cp sg)(hg:gs=(BF fs nx cp sg o).fs)(M:nx'=(BF fs nx cp sg o).nx)(h0:(BF fs nx cp sg o).code=0)(hn:n<50000)(Z:∀v∈o.ad,C8 v)(aq:o.ak.size<=maxLen)(y:Fk w a gs) :
  Ca 46 #[Pn N.nw,.slice a gs.length c] w λe w'=>e=.returned (.tuple #[])/\(∃adr' U' E R t,FO N rs L adr' U' gs fo nx' E d R t w'/\R<=n+1)/\DB N w w':=by
 have u:VS gs nx' cp sg:=by
  rcases Si o hv with q|⟨l,_,m,C,_⟩
  .rw[h0]at q;omega
  rw[m,C,<-hg,<-M]at l;exact l
 obtain⟨K,J,Y⟩:=kR o hv h0;rw[<-hg,<-M]at Y;obtain⟨e1,H⟩:=Y.stay (PF hv.aW) hv.low;have I:fs.length<=40:=by have:=hv.len;have:=hv.bc;omega
 have av:gs.length<=40:=by have:=u.len;have:=u.bc;omega
 have ao:(Lit.int .i64 nx).wf=true:=by
  have z:=hv.cF;have h2:=hv.de;exact OE qd qd
 have am:∀f∈gs,Cq f/\AV f:=λf b=>by
  rw[Y.eq]at b;rcases yr.1 b with b|b
  .exact h.rd f (Y.sub.subset b)
  obtain⟨l,A,m,C⟩:=Y.bP f b;refine⟨⟨by rw[l];exact ao,by rw[A];exact Z⟩,?_,?_,by rw[A];exactλv hv=>(Z v hv).2.2⟩
  .rcases C with⟨B,_⟩|⟨g,O,B⟩
   .rw[B];exact aq
   rw[<-B];exact(h.rd g O).2.1
  rw[A];simp only[C4,yk,decide_eq_true_eq]at m;omega
 have aj:∀g∈gs,kn fs g=false->g ∉ U:=λg O hk hU=>by
  have hm:g∈gs.filter λg=>!kn fs g:=yg.2 ⟨O,by rw[hk];rfl⟩;rw[H]at hm;have z:=(Y.bP g hm).1;have h2:=h.low g hU;omega
 refine(wN N h.st.ok adr U fs gs V d n D a c w h.st.bx h.st.lk h.st.st h.st.ol h.mp h.mv qd y u.aW (λf b=>(am f b).1) qd qd (λf b=>(h.rd f b).1.1) (λf b g O=>h.tg f (h.st.lk.sub f b) g (h.st.lk.sub g O)) aj h.bu).ac λe w' q=>?_;obtain⟨l,⟨adr',p,E,t,G⟩,m⟩:=q;have k:p=J:=by rw[G.ae,yW];exact H
 have s:stay fs gs++p=gs:=by rw[e1,k,Y.eq]
 have z:=Y.one;have ar:∀f∈U++p,f.tag<nx':=λf b=>by
  rcases yr.1 b with b|b
  .have:=h.low f b;rcases Y.eu with⟨_,q⟩|q<;>omega
  rw[k]at b;have q:=(Y.bP f b).1;rcases Y.eu with⟨q',_⟩|q'
  .rw[q']at b;cases b
  omega
 refine⟨l,⟨adr',U++p,E,n+p.length,t,⟨⟨h.st.ok,by have:=G.bx;rwa [s]at this,by have:=G.lk;rwa [s]at this,by have:=G.ms;rwa [s]at this,h.st.ol⟩,h.aN,G.mp,by have:=G.mv;rwa [s]at this,ar,λf b g O e=>?_,by have:=G.bu;rwa [s]at this,am,λf b=>Wb _ (h.cX f b),λi r old hr ho=>?_⟩,by rw[k];omega⟩,m⟩
 .rcases yr.1 b with b|b<;>rcases yr.1 O with O|O
  .exact h.tg f b g O e
  .rw[k]at O;have q:=(Y.bP g O).1;have q':=h.low f b;omega
  .rw[k]at b;have q:=(Y.bP f b).1;have q':=h.low g O;omega
  rw[k]at b O;cases J with
  |nil=>cases b
  |cons x r=>
   have au:r=[]:=by
    simp only[yH]at z;exact Y9.1 qd
   rw[au]at b O;rw[yv.1 b,yv.1 O]
 refine(h.bC i r old hr ho).j (K4 (Yn λT y=>?_));refine(OQ λf b=>G.ag f (h.cX f ?_)).ai;obtain⟨W,e,hW⟩:=Ow _ _ _ y;rw[Yj]at e;exact hW f (e▸b)
def Eb.nc{N adr U fs V a w}(h:Eb N adr U fs V a w):∀g,N.Sm g->∀c t e,w.heap[g]?≠some (.cells c t e):=by
 rintro g ⟨m,f,d⟩;obtain⟨i,b⟩:=YD f;have hl:=(yf.1 b).1;exact(h.st i m (a[i]'(by rw[h.ol];exact hl)) b qe).nc g d
def CgD(N:NT)(rs:List Ru)(ms:List Int)(adr:F->Addr)(U fs fo:List F)(nx:Int)(V:List Value)(n:Nat)(D:DataW Unit)(w:World)(e:Ending)(w':World):Prop:=
 ∃(P Q:List Eh)(a a':Option Addr)(c c':Nat),e=.returned (.tuple #[.slice a P.length c,.slice a' Q.length c'])/\Iw w' w.heap.size w.heap.size a c P/\Iw w' w.heap.size w.heap.size a' c' Q/\AL (.slice a P.length c) (.slice a' Q.length c')/\(P++Q).Pairwise (λx y=>AL x.2 y.2)/\P.map Prod.fst=FM (Cs fs 0 rs) (Cs fo 0 rs)/\Q.map Prod.fst=FM (Cs fo 0 rs) (Cs fs 0 rs)/\(∃olds',FO N rs ms adr U fs fs nx V olds' n D w')/\Av N.Sm w w'/\CK w w'
def iU{r fs X vw}(Y:NK X)(O:X.map Cx.cp=Bz r.af [] 0)(a:∀c∈X,gV vw c=fs.filter (Ae c.cp.aq))(hl:fs.length<=100):(FL r fs).length<=1000000:=by
 have h:=(Rd vw 100 qd X [[]] (λc b=>by rw[a c b];exact yi (Yd _ _) hl)).2;simp only[yE,YO,yM,yH,YV,Yt,KS]at h;rw[TS O a]at h;exact yi h (yi (WL qd Y.pos) qh)
def FO.cY{N rs M adr U fs o nx cp sg V k n D w}(h:FO N rs M adr U fs o nx V k n D w)(H:(Bh rs).1=0)(hv:VS fs nx cp sg)(R:∀r∈rs,(∀T∈FL r o,T.length<=3)/\(FL r o).length<=1000000)(ao:o.Pairwise λf g=>f.tag<g.tag) :
  Ca 48 #[Pn N.nw] w (CgD N rs M adr U fs o nx V n D w):=by
 have K:fs.length<=40:=by have:=hv.len;have:=hv.bc;omega
 have J:∀r∈rs,∀T∈FL r o,T.length<=3/\∀f∈T,f∈U:=λr b T s=>⟨(R r b).1 T s,λf hf=>by
  obtain⟨W,e,hW⟩:=Ow _ _ _ s;rw[Yj]at e;exact h.cX f (hW f (e▸hf))⟩
 have Y:∀(j:Nat)(old:List Kt),k[j]?=some old->∃r,rs[j]?=some r:=λj old p=>⟨rs[j]'(by rw[<-h.aN.len,<-h.st.ol];exact(yf.1 p).1),qe⟩
 have hO:∀(j:Nat)(old:List Kt),k[j]?=some old->∀x∈old,∃T,x=Ab adr T/\T.length<=3/\∀f∈T,f∈U:=λj old p x hx=>by
  obtain⟨r,b⟩:=Y j old p;obtain⟨T,s,e⟩:=yz.1 ((h.bC j r old b p).mem_iff.1 hx);exact⟨T,e.ai,J r (yd b) T s⟩
 have few:∀(j:Nat)(m:MK)(r:Ru),N.Ms[j]?=some m->rs[j]?=some r->(FL r fs).length<=1000000:=λj m r l b=>by
  obtain⟨d,_,hX,_⟩:=h.aN.bu j m r l b;exact iU (Rs H (yd b) hX) hX (h.st.bx.pre h.st.lk (yd l)).2.1 qd
 refine(zmT N adr U fs V k w h.st hO λj m old l p=>?_).ac λe w' q=>?_
 .obtain⟨r,b⟩:=Y j old p;have h1:=few j m r l b;have h2:=(R r (yd b)).2;rw[(h.st.cH h.aN l b).1,(h.bC j r old b p).length_eq,yp];omega
 obtain⟨P,Q,a,a',c,c',xs,q1,q2,q3,q4,q5,q6,q7,q8,q9,⟨A,olds',l0,I,l2,l3,l4,l5⟩,E⟩:=q;have z:Q8 adr U rs o fs A:=⟨h.st.lk.inj,h.tg,by rw[l2,h.aN.len],λi r L b v=>by
  obtain⟨m,l⟩:=h.aN.at b;obtain⟨old,O⟩:∃old,k[i]?=some old:=⟨k[i]'(by rw[h.st.ol];exact(yf.1 l).1),qe⟩
  exact⟨old,_,l4 i m old L l O v,h.bC i r old b O,by rw[(h.st.cH h.aN l b).1]⟩,J,λr b=>by
  obtain⟨i,Z⟩:=YD b;obtain⟨m,l⟩:=h.aN.at Z;exact(h.st.cH h.aN l Z).2⟩
 have am:∀e∈xs,e.sg=1∨e.sg = -1:=λe he=>by
  have l:GG e∈F6 0 A:=by
   rw[<-I];exact yT he
  obtain⟨i,L,T,v,s,_⟩:=(RI 0 A).1 l;have aa:i<rs.length:=by
   rw[<-z.len];exact(yf.1 v).1
  obtain⟨old,B,k1,_,_⟩:=z.each i (rs[i]'aa) L qe v;obtain⟨_,_,k2,k3⟩:=k1.ok _ s;simp only at k2 k3;rcases Ox (Ab adr T) B with y|y<;>rcases Ox (Ab adr T) old with u|u<;>rw[y,u]at k2<;>omega
 obtain⟨y,u⟩:=tl z I (λr b=>P6 H b) ao (PF hv.aW) q6 q7 q8 q9 am;refine⟨P,Q,a,a',c,c',q1,q2,q3,q4,q5,y,u,⟨olds',l3,h.aN,Ii h.mp (E.block _ h.mp.lt (λ⟨m,l,G⟩=>h.st.ok.co m l G)),h.mv,h.low,h.tg,h.bu,h.rd,h.st.lk.sub,λi r old b O=>?_⟩,E,λg cs t fr C=>(E.block g (As C) (λG=>h.st.nc g G _ _ _ C)).j C⟩;obtain⟨m,l⟩:=h.aN.at b;have:=l5 i m old l O;rwa [(h.st.cH h.aN l b).1]at this
structure E5 where
 code:Int
 tag:Int
 size:Int
 va:Value
 vd:Value
 P:List Eh
 Q:List Eh
def DJ(x:E5):List Value:=[.int .i64 x.code,.int .i64 x.tag,x.va,x.vd,.int .i64 x.size]
def DK(x:E5):Iy:=⟨x.code,x.tag,x.P.map Prod.fst,x.Q.map Prod.fst,x.size⟩
structure FE(w:World) (b:Nat) (x:E5):Prop where
 a:∃a c,x.va=.slice a x.P.length c/\Iw w b b a c x.P
 d:∃a c,x.vd=.slice a x.Q.length c/\Iw w b b a c x.Q
structure SO(w:World) (b:Nat) (a:Option Addr) (c:Nat) (L:List E5):Prop where
 row:w.ownsRow b 42 5 (.slice a L.length c) L.length (L.flatMap DJ)
 each:∀x∈L,FE w b x
 rows:(L.flatMap λx=>[x.va,x.vd]).Pairwise AL
 al:(L.flatMap λx=>x.P++x.Q).Pairwise λx y=>AL x.2 y.2
def SO.nil(w b):SO w b none 0 []:=⟨y9 _ _ _ _,λx a=>(by cases a),List.Pairwise.nil,List.Pairwise.nil⟩
def FE.aQ{w w' b x}(h:FE w b x)(g:∀(k:Nat)c t,(t=45∨t=3)->b<=k->w.heap[k]?=some (.cells c t (0,0))->w'.heap[k]?=w.heap[k]?):FE w' b x:=by
 obtain⟨⟨a,c,e,l⟩,⟨j,m,O,i⟩⟩:=h;exact⟨⟨a,c,e,l.aQ λk c t f hb d=>g k c t f qX d⟩,⟨j,m,O,i.aQ λk c t f hb d=>g k c t f qX d⟩⟩
def SO.aQ{w w' b a c L}(h:SO w b a c L)(e:∀(k:Nat)c t,(t=42∨t=45∨t=3)->b<=k->w.heap[k]?=some (.cells c t (0,0))->w'.heap[k]?=w.heap[k]?):SO w' b a c L:=
 ⟨BZ h.row λg d=>by
  obtain⟨f,O⟩:=A8 h.row d
  exact e g f _ (.inl rfl) (h.row.lt g d).1 O,λx j=>(h.each x j).aQ λk c t i=>e k c t (.inr i),h.rows,h.al⟩
def SO.ck{w w' b a c L}(h:SO w b a c L)(e:CK w w'):SO w' b a c L:=h.aQ λ_ _ _ _ _ d=>(e _ _ _ _ d).j d.ai
def SO.fn{N w w' b a c L}(h:SO w b a c L)(e:DB N w w'):SO w' b a c L:=h.aQ λk c t ht _ d=>(e.kept _ _ _ _ d qy qy).j d.ai
def SO.lt{w b a c L}(h:SO w b a c L):(∀v∈L.flatMap λx=>[x.va,x.vd],∀g,v.ownBlock=some g->g<w.heap.size)/\∀y∈L.flatMap λx=>x.P++x.Q,∀g,y.2.ownBlock=some g->g<w.heap.size:=by
 constructor
 .intro v hv g d;obtain⟨x,i,hv⟩:=Yk.1 hv;obtain⟨⟨a,c,e,k⟩,⟨l,m,O,j⟩⟩:=h.each x i;simp only[yO,YI,or_false]at hv;rcases hv with rfl|rfl
  .rw[e]at d;exact(k.row.lt g d).2
  rw[O]at d;exact(j.row.lt g d).2
 intro y f g d;obtain⟨x,i,f⟩:=Yk.1 f;obtain⟨⟨a,c,e,k⟩,⟨l,m,O,j⟩⟩:=h.each x i;rcases yr.1 f with f|f
 .exact((k.all y f).ot.lt g d).2
 exact((j.all y f).ot.lt g d).2
def fP:(prog.info? 42).map (λi=>(i.zero,i.size,i.bytes))=some (some (.agg #[I6 0,I6 0,.slice none 0 0,.slice none 0 0,I6 0]),5,72):=qf
def SO.snoc{w f m b a n c p L x}(h:SO w b a c L)(s:SO f b a c L)(q:FE f w.heap.size x)(J:AL x.va x.vd)(Y:(x.P++x.Q).Pairwise λy z=>AL y.2 z.2)(o:b<=w.heap.size)(ho:m.ownsRow b 42 5 (.slice n (L.length+1) p) (L.length+1) (L.flatMap DJ++DJ x))(B:f.grownBy m (Value.slice a L.length c).ownBlock):SO m b n p (L++[x]):=by
 have O:∀k,(Value.slice a L.length c).ownBlock=some k->∃c,f.heap[k]?=some (.cells c 42 (0,0)):=λk i=>A8 s.row i;have keep:∀(k:Nat)c t,(t=45∨t=3)->f.heap[k]?=some (.cells c t (0,0))->m.heap[k]?=f.heap[k]?:=λk cs t ht i=>B.block k (As i) λe=>by
  obtain⟨U,H⟩:=O k e.ai;exact CB i H qs
 obtain⟨D,K⟩:=h.lt;have G:FE f b x:=by
  obtain⟨⟨a,c,e,l⟩,⟨n,p,E,d⟩⟩:=q;exact⟨⟨a,c,e,l.lower o o⟩,⟨n,p,E,d.lower o o⟩⟩
 obtain⟨⟨N,R,C,A⟩,⟨M,T,I,r⟩⟩:=q;refine⟨Qz,λy j=>?_,?_,?_⟩
 .have hy7:FE f b y:=by
   rcases yr.1 j with j|j
   .exact s.each y j
   rw[yv.1 j];exact G
  exact hy7.aQ λk cs t ht _ i=>keep k cs t ht i
 .rw[Yu,yE,YO,yM];refine Yy.2 ⟨h.rows,by simpa using J,λu hu v hv g l d=>?_⟩;have:=D u hu g l;simp only[yO,YI,or_false]at hv;rcases hv with rfl|rfl
  .rw[C]at d;have:=(A.row.lt g d).1;omega
  rw[I]at d;have:=(r.row.lt g d).1;omega
 rw[Yu,yE,YO,yM];refine Yy.2 ⟨h.al,Y,λu hu v hv g l d=>?_⟩;have:=K u hu g l;rcases yr.1 hv with hv|hv
 .have:=((A.all v hv).ot.lt g d).1;omega
 have:=((r.all v hv).ot.lt g d).1;omega
def Gj(w:World)(a:Option Addr)(os:List Wo):Prop:=∀(i:Nat)(o:Wo),os[i]?=some o->∃b p sa sc,a=some ⟨b,p,none⟩/\w.cell? ⟨b,p+i*4,none⟩=some (.int .i64 o.kind)/\w.cell? ⟨b,p+i*4+1,none⟩=some (.int .i64 o.tag)/\w.cell? ⟨b,p+i*4+2,none⟩=some (.string o.ak)/\w.cell? ⟨b,p+i*4+3,none⟩=some (.slice sa o.ad.length sc)/\Bj w sa o.ad
def Gj.J{w w' a d}(h:Gj w a d)(c:Bw w w'):Gj w' a d:=λi o j=>by
 obtain⟨b,p,sa,f,e,O,l,k,g,m⟩:=h i o j;exact⟨b,p,sa,f,e,zab c O,zab c l,zab c k,zab c g,m.J c⟩
structure Gd(o:Wo):Prop where
 wf:(Lit.int .i64 o.tag).wf=true
 ak:o.ak.size<=maxLen
 len:o.ad.length<=1048576
 cq:∀v∈o.ad,C8 v
def xr(o)(b:Gd o)(a c fs nx cp sg sa i w)(hv:BC w a fs)(m:fs.length<=c)(O:Bj w sa o.ad)(hl:fs.length<=1048576)(g:∀f∈fs,Cq f/\AV f) :
  Ca 45 #[.agg #[I6 o.kind,I6 o.tag,.string o.ak,.slice sa o.ad.length i],.agg #[.slice a fs.length c,I6 nx,I6 cp,.bool sg]] w λe w'=>
   (∃n p xs,e=.returned ((BF fs nx cp sg o).val n p)/\Bp w' w.heap.size (.slice n (BF fs nx cp sg o).fs.length p) (BF fs nx cp sg o).fs.length (BF fs nx cp sg o).fs xs)/\Bw w w':=by
 unfold BF;by_cases l:o.kind=1
 .rw[if_pos l,l];exact zlE a c fs nx cp sg o.ak o.tag sa i o.ad w hv m b.wf O hl (λf d=>(g f d).2) (λf d=>(g f d).1) b.ak b.len b.cq
 rw[if_neg l];by_cases k:o.kind=2
 .rw[if_pos k,k];exact zjO a c fs nx cp sg o.ak o.tag sa i o.ad w hv m b.wf O hl (λf d=>(g f d).2) (λf d=>(g f d).1) b.ak b.len b.cq
 rw[if_neg k];by_cases j:o.kind=3
 .rw[if_pos j,j];exact zlq a c fs nx cp sg o.ak o.tag sa i o.ad w hv m b.wf O hl (λf d=>(g f d).2) (λf d=>(g f d).1) b.ak b.len b.cq
 rw[if_neg j];exact xu o.kind o.tag o.ak sa o.ad.length i a fs.length c nx cp sg w l k j
def FO.dy{N rs f adr U fs t nx cp sg V b n D w}(h:FO N rs f adr U fs t nx V b n D w)(Y:(Bh rs).1=0)(hv:VS fs nx cp sg)(q:f.length=rs.length) :
  Ca 47 #[Pn N.nw] w λe w'=>e=.returned (I6 (JO rs f fs))/\w'=w:=by
 have l:fs.length<=40:=by have:=hv.len;have:=hv.bc;omega
 have key:∀(i:Nat)(m:MK),N.Ms[i]?=some m->∃r d,rs[i]?=some r/\f[i]?=some d/\r∈rs/\m.X.map Cx.cp=Bz r.af [] 0/\m.bg d:=λi m a=>by
  obtain⟨r,g⟩:∃r,rs[i]?=some r:=⟨rs[i]'(by rw[<-h.aN.len];exact(yf.1 a).1),qe⟩
  obtain⟨d,x,u,p⟩:=h.aN.bu i m r a g;exact⟨r,d,g,x,yd g,u,p⟩
 have e:(N.Ms.map (MK.sz (N.vw V fs))).sum=JO rs f fs:=by
  unfold JO;congr 1;apply YM;intro i;rw[yx,yx]
  cases a:N.Ms[i]? with
  |none=>
   have hl:N.Ms.length<=i:=by simpa using a
   have:(rs.zip f)[i]?=none:=Yr (by rw[List.length_zip,q,Nat.min_self,<-h.aN.len];exact hl);rw[this];rfl
  |some m=>
   obtain⟨r,d,g,hd,O,j,k⟩:=key i m a;have:(rs.zip f)[i]?=some (r,d):=WG.2 ⟨g,hd⟩;rw[this];simp only[Wg,Y5];exact X_ (P6 Y O) j (h.st.bx.pre h.st.lk (yd a)).2.1 k
 rw[<-e];refine ve N h.st.ok adr U fs V b w h.st.bx h.st.lk h.st.st h.st.ol λm a=>?_;obtain⟨i,s⟩:=YD a;obtain⟨r,d,g,hd,O,j,k⟩:=key i m s;have o:=Rs Y O j;exact vR o.X6 o.pos λc v=>by
  rw[(h.st.bx.pre h.st.lk a).2.1 c v];exact yi (Yd _ _) qd
end
section
attribute [local go_sem ↓] wp_at_zero wp_at_succ
def ND{P:World->Prop}{w Y O a}(h:∀wt,Bw w wt->wt.heap[w.heap.size]?=some Y->wt.heap[w.heap.size+1]?=some O->wt.heap[w.heap.size+1+1]?=some a->P wt):P (((w.alloc Y).alloc O).alloc a):=
 h _ ((Af.alloc qe _).alloc qg _) (((yV _ _ _ qg).j (yV _ _ _ qe)).j (heap_alloc_new _ _)) ((yV _ _ _ qe).j qQ) (by have:=heap_alloc_new ((w.alloc Y).alloc O) a;simpa using this)
def fN(r:C6)(w:World)(e:Ending)(w':World):Prop:=(∃a c,e=.returned (r.val a c)/\DD (λb=>w.heap.size<=b) w' a r.fs/\r.fs.length<=c)/\Bw w w'
def QU{w:World}{b}(q:w.heap[b]?=some (.cells #[.slice none 0 0,I6 0,I6 0,.bool false,I6 0,I6 0] 87 (0,0))):At w b 0 (.slice none 0 0)/\At w b 1 (I6 0)/\At w b 2 (I6 0)/\At w b 3 (.bool false)/\At w b 4 (I6 0)/\At w b 5 (I6 0)/\w.frozen? ⟨b,0,none⟩=false/\w.frozen? ⟨b,1,none⟩=false/\w.frozen? ⟨b,2,none⟩=false/\w.frozen? ⟨b,3,none⟩=false/\w.frozen? ⟨b,4,none⟩=false/\w.frozen? ⟨b,5,none⟩=false:=by
 simp[World.cell?,World.frozen?,q]
def QJ(w:World)(b:Nat)(a:Option Addr)(c:Nat)(r:C6):World:=((((((w.setCell ⟨b,0,none⟩ (.slice a r.fs.length c)).setCell ⟨b,1,none⟩ (.int .i64 r.nx)).setCell ⟨b,2,none⟩ (.int .i64 r.cp)).setCell ⟨b,3,none⟩ (.bool r.sg)).setCell ⟨b,4,none⟩ (.int .i64 r.code)).setCell ⟨b,5,none⟩ (.int .i64 r.tag))
def kY{r}{w d e:World}{b a c}(h:DD (λg=>d.heap.size<=g) e a r.fs)(i:r.fs.length<=c)(l:Bw w e)(hl:w.heap.size<=b)(m:b<d.heap.size)(j:w.heap.size<=d.heap.size):fN r w (.returned (r.val a c)) (QJ e b a c r):=by
 refine⟨⟨a,c,rfl,DD.ac (h.kept ?_) (λg f=>yi j f),i⟩,?_⟩
 .intro g f _;have k:∀(v:World)o u,(v.setCell ⟨b,o,none⟩ u).heap[g]?=v.heap[g]?:=λv o u=>Yb _ _ _ _ (by show g≠b;omega);unfold QJ;simp only[k]
 exact(((((l.setCell hl _).setCell hl _).setCell hl _).setCell hl _).setCell hl _).setCell hl _
def XS(h:P:=by
 rintro e w2 ⟨⟨a2,c2,rfl,af,am⟩,O⟩;have q:=(O.block _ G3.o).j Q3.o;obtain⟨FA,B2⟩:=Ak af (B1.o.aj O);obtain⟨u0,u1,u2,u3,u4,u5,v0,v1,v2,v3,v4,v5⟩:=QU q;clear af O q H1 H2 H3;unfold C6.val;go_wp2_with fail;refine bodyPost_ret (v:=r.val a2 c2) (by simp[results,results51,go_sem,C6.val, *]) rfl (kY FA.o am B2.o W3.o G3.o B1.o.size)
 ):=h
def uh(o)(l:Gd o)(a c fs nx cp sg sa s w)(hv:BC w a fs)(C:fs.length<=c)(B:Bj w sa o.ad)(hl:fs.length<=1048576)(E:∀f∈fs,Cq f/\AV f) :
  Ca 51 #[.agg #[.slice a fs.length c,I6 nx,I6 cp,.bool sg],.agg #[I6 o.kind,I6 o.tag,.string o.ak,.slice sa o.ad.length s]] w (fN (BF fs nx cp sg o) w):=by
 have p:=Aa (λf hf=>(E f hf).2);have H1:=Aa (λw'(h:Bw w w')=>zkM a c fs nx cp sg o.ak sa s o.ad w' (hv.J h) (B.J h) C hl p.o l.ak l.len (λv hv=>(l.cq v hv).2.2));have H2:=Aa (λw'(h:Bw w w')=>zjx a c fs nx cp sg o.tag w' (hv.J h) C hl p.o);have H3:=Aa (λw'(h:Bw w w')=>zl9 a c fs nx cp sg o.tag sa s o.ad w' (hv.J h) (B.J h) C hl p.o l.len (λv hv=>(l.cq v hv).2.2));clear hv B E p;have G:=Aa (show(o.kind=1/\BF fs nx cp sg o=De fs nx cp sg o.ak o.ad)∨(o.kind=2/\BF fs nx cp sg o=CV fs nx cp sg o.tag)∨(o.kind=3/\BF fs nx cp sg o=BS fs nx cp sg o.tag o.ad)∨(o.kind≠1/\o.kind≠2/\o.kind≠3/\BF fs nx cp sg o=C6.bad) by
  unfold BF;by_cases x:o.kind=1
  .exact .inl ⟨x,if_pos x⟩
  rw[if_neg x];by_cases u:o.kind=2
  .exact .inr (.inl ⟨u,if_pos u⟩)
  rw[if_neg u];by_cases t:o.kind=3
  .exact .inr (.inr (.inl ⟨t,if_pos t⟩))
  exact .inr (.inr (.inr ⟨x,u,t,if_neg t⟩)))
 go_enter func51,ntmps51;go_upto_region 1 with fail;refine ND ?_;intro d H ai ah aj;obtain⟨m,n⟩:∃b,b=w.heap.size:=⟨_,rfl⟩
 obtain⟨k,O⟩:∃b,b=m+1:=⟨_,rfl⟩
 obtain⟨L,y⟩:∃b,b=k+1:=⟨_,rfl⟩
 rw[<-n]at ai;rw[<-n]at ah;rw[<-n]at aj;rw[<-O]at ah;rw[<-O]at aj;rw[<-y]at aj;(try rw[<-n]);(try rw[<-O]);(try rw[<-y]);have W:At d m 0 (.slice a fs.length c):=Tu;have N:At d m 1 (I6 nx):=Tu;have R:At d m 2 (I6 cp):=Tu;have Z:At d m 3 (.bool sg):=Tu;have T:At d k 0 (I6 o.kind):=qJ;have e1:At d k 1 (I6 o.tag):=qJ;have M:At d k 2 (.string o.ak):=qJ;have U:At d k 3 (.slice sa o.ad.length s):=qJ;obtain⟨B1,Q3,G3,W3⟩:=BE H aj (As aj) (show w.heap.size<=L by omega);clear H ai ah aj n O y;rcases G.o with⟨g,Y⟩|⟨g,Y⟩|⟨g,Y⟩|⟨g,K,I,Y⟩
 all_goals clear G
 .have A:(o.kind==1)=true:=by simp;omega
  have z:(o.kind==2)=false:=by simp;omega
  have D:(o.kind==3)=false:=by simp;omega
  rw[<-Y]at H1;clear g Y;generalize BF fs nx cp sg o=r at *;go_wp2_with fail;refine(H1.o d B1.o).ac ?_;exact XS
 .have A:(o.kind==1)=false:=by simp;omega
  have z:(o.kind==2)=true:=by simp;omega
  have D:(o.kind==3)=false:=by simp;omega
  rw[<-Y]at H2;clear g Y;generalize BF fs nx cp sg o=r at *;go_wp2_with fail;refine(H2.o d B1.o).ac ?_;exact XS
 .have A:(o.kind==1)=false:=by simp;omega
  have z:(o.kind==2)=false:=by simp;omega
  have D:(o.kind==3)=true:=by simp;omega
  rw[<-Y]at H3;clear g Y;generalize BF fs nx cp sg o=r at *;go_wp2_with fail;refine(H3.o d B1.o).ac ?_;exact XS
 have A:(o.kind==1)=false:=by simp;omega
 have z:(o.kind==2)=false:=by simp;omega
 have D:(o.kind==3)=false:=by simp;omega
 clear g K I;have q:=Q3.o;obtain⟨u0,u1,u2,u3,u4,u5,v0,v1,v2,v3,v4,v5⟩:=QU q;clear q H1 H2 H3;go_wp2_with fail;refine bodyPost_ret (v:=C6.bad.val none 0) (by simp[results,results51,go_sem,C6.val,C6.bad, *]) rfl (by rw[Y];exact kY (r:=C6.bad) (a:=none) (c:=0) (λi f hf=>Nx) (yA _) B1.o W3.o G3.o B1.o.size)
def iL(fs)(c:fs.length<=40):∀(ps:List Pt)(xs:List Pm)(n:Nat),(AS ps fs xs n).2<=n+ps.length*(xs.length*41^ps.length)
 |[],xs,n=>by simp[AS]
 |r::ps,xs,n=>by
  have i:=iL fs c ps (Ci r fs xs) (n+(Ci r fs xs).length)
  have e:=OI r fs xs
  have d:xs.length*(fs.length+1)<=xs.length*41:=Wd AA qd
  have b:(Ci r fs xs).length*41^ps.length<=xs.length*41*41^ps.length:=Wd qd AA
  have a:xs.length*(41^ps.length*41)=xs.length*41*41^ps.length:=pH
  have f:ps.length*((Ci r fs xs).length*41^ps.length)<=ps.length*(xs.length*41*41^ps.length):=Wd AA b
  have g:(Ci r fs xs).length<=(Ci r fs xs).length*41^ps.length:=Ks _ (Nat.pow_pos qd)
  simp only[AS,yH,Nat.pow_succ,a,Kv]
  omega
def vY{r fs}(d)(c:Fu r.af [] 0)(b:r.af.length<=6)(a:fs.length<=40):0<=Im d r fs/\Im d r fs<=28500625446:=by
 have O:41^r.af.length<=4750104241:=by
  have:41^r.af.length<=41^6:=WL qd b;simpa using this
 unfold Im;split
 .have h:=iL fs a r.af [⟨[],[]⟩] 0;have f:r.af.length*([(⟨[],[]⟩:Pm)].length*41^r.af.length)<=6*(1*4750104241):=Wd b (Wd qe O);omega
 have h:=U1 fs a r.af [⟨[],[]⟩] 0;rw[Ry c,yp]at h;have e:(FL r fs).length=(CX (Bz r.af [] 0) fs []).length:=rfl;simp at h;omega
def Il(rs:List Ru)(ms:List Int)(fs:List F)(k:Nat):Int:=(((rs.zip ms).take k).map λy=>Im y.2 y.1 fs).sum
def vi{rs a fs k r d}(b:rs[k]?=some r)(hd:a[k]?=some d):Il rs a fs (k+1)=Il rs a fs k+Im d r fs:=by
 unfold Il;have e:(rs.zip a)[k]?=some (r,d):=by
  rw[WG];exact⟨b,hd⟩
 rw[yY,e];simp
def zo8(rs b fs a c ma mc fa fc){q q'}(w)(hv:Do q w a rs)(U:Bf q' w ma b)(I:BC w fa fs)(j:(Bh rs).1=0)(E:b.length=rs.length)(H:fs.length<=40) :
  Ca 53 #[.slice a rs.length c,.slice ma b.length mc,.slice fa fs.length fc] w λe w'=>e=.returned (I6 (JO rs b fs))/\Bw w w':=by
 obtain⟨HV,HI,HF,Z,L⟩:=DU hv U I (λr(h:r∈rs)=>Qf j h) (λr(h:r∈rs)=>P6 j h);have aF:=RM j;obtain⟨HE,D⟩:=Ak (show Il rs b fs rs.length=JO rs b fs by unfold Il JO;rw[yu (by rw[List.length_zip];omega)]) E;clear hv I U j E;go_enter func53,ntmps53;go_wp2_with fail
 go_loopw [14,7] (λiv sv wr=>∃(k:Nat)(s:Int),iv=I6 (k:Int)/\k<=rs.length/\sv=I6 s/\s=Il rs b fs k/\0<=s/\s<=k*28500625446/\Bw w wr) (λiv _ _=>rs.length-(intOf iv).toNat)
 case atStart=>exact⟨0,0,rfl,yA _,rfl,rfl,Wm _,qd,Aj⟩
 case round=>
  obtain⟨k,s,rfl,aG,rfl,G,aH,aa,v⟩:=hrel;obtain⟨t,f⟩:=Ak G v;have aI:=v.size;clear G v;by_cases hk:k<rs.length
  .obtain⟨r,l⟩:=AJ hk;obtain⟨d,hd⟩:∃d,b[k]?=some d:=⟨b[k]'(by have:=D.o;omega),qe⟩
   obtain⟨rb,ro,aC,aE,aD,aA,az,aB,rfl,_,c0,c1,c2,c3,c4,B,_,_,_⟩:=(HV.o.J f.o).get l;obtain⟨mb,mo,rfl,_,m0⟩:=(HI.o.J f.o).get hd;have Y:=yd l;obtain⟨R,K,_⟩:=Z.o r Y;obtain⟨N,m,AP⟩:=AQ (λw'(h:Bw wr w')=>js r fs aC aE aD aA az aB fa fc w' (B.J h) ((HF.o.J f.o).J h) R K H) (vi (fs:=fs) l hd) (Ry (fs:=fs) (L.o r Y));obtain⟨x,C⟩:=vY (fs:=fs) d (L.o r Y) R H;have z0:(0:Int)<=(k:Int):=qd;have z1:(k:Int)<(rs.length:Int):=qd;have z2:(k:Int)<(b.length:Int):=by have:=D.o;omega
   clear l hd Y B K;go_upto_region 5 with fail;refine Bt ?_;intro w1 i W;obtain⟨b0,b1,b2,b3,b4⟩:=Gc W;have m1:=zab i m0;obtain⟨y,T⟩:=Ak i (f.o.aj i);clear i W c0 c1 c2 c3 c4 m0 f;go_wp2_with fail;refine(N.o w1 y.o).ac ?_;rintro e w2 ⟨⟨pa,pc,P,rfl,hP,u⟩,p⟩;have m2:=zab p m1;have A:=Aa (T.o.aj p);clear hP p b0 b1 b2 b3 b4 T N y m1;by_cases O:d=0
   .have e0:(d==0)=true:=qA;have g:Im d r fs=((AS r.af fs [⟨[],[]⟩] 0).2:Int):=by unfold Im;rw[if_pos O]
    generalize (AS r.af fs [⟨[],[]⟩] 0).2=n at *;rw[g]at x C m;clear O g u;go_wp2_with fail;go_roundw
    case rel=>exact⟨k+1,s+n,ql,qd,ql,by rw[m.o,t.o],qd,qd,A.o⟩
    case measure=>(simp[intOf];omega)
   have e0:(d==0)=false:=qA;have g:Im d r fs=(P.length:Int):=by
    unfold Im;rw[if_neg O];have:=congrArg List.length u;rw[yp,AP.o,yp]at this;rw[this];rfl
   rw[g]at x C m;clear O g u;go_wp2_with fail;go_roundw
   case rel=>exact⟨k+1,s+P.length,ql,qd,ql,by rw[m.o,t.o],qd,qd,A.o⟩
   case measure=>(simp[intOf];omega)
  have M:k=rs.length:=qd;have hy:¬(k:Int)<(rs.length:Int):=qd;have S2:=Aa (show JO rs b fs=s by rw[t.o,M,HE.o]);clear M;go_wp2_with fail;go_ret;exact⟨congrArg (λz=>Ending.returned (I6 z)) S2.o.ai,f.o⟩
end
section
open Go.Maps
attribute [local go_sem ↓] wp_at_zero wp_at_succ
def Uc(L0:List Iy)(w:World)(e:Ending)(w':World):Prop:=∃(sa:Option Addr)(sc:Nat)(L:List E5),e=.returned (.slice sa L.length sc)/\SO w' w.heap.size sa sc L/\L.map DK=L0/\Bw w w'
structure ZG(w0:World) (N:NT) (rs:List Ru) (ms:List Int) (cp:Int) (sg:Bool) (os:List Wo) (k stb:Nat) (fa:Option Addr) (fc:Nat) (sa:Option Addr) (sc:Nat) (L:List E5) (w:World):Prop where
 aN:∃adr U V olds n D,FO N rs ms adr U (Bb cp sg (os.take k)).1 (Bb cp sg (os.take k)).1 (Bb cp sg (os.take k)).2 V olds n D w/\n<=k
 box:w.heap[stb]?=some (.cells #[.slice fa (Bb cp sg (os.take k)).1.length fc,.int .i64 (Bb cp sg (os.take k)).2,.int .i64 cp,.bool sg] 27 (0,0))
 cu:Fk w fa (Bb cp sg (os.take k)).1
 cap:(Bb cp sg (os.take k)).1.length<=fc
 st:SO w w0.heap.size sa sc L
 eq:L.map DK=Ib rs ms cp sg os k
 ar:Bw w0 w
structure ZF(w0:World) (N:NT) (rs:List Ru) (ms:List Int) (cp:Int) (sg:Bool) (os:List Wo) (k stb:Nat) (fa:Option Addr) (fc:Nat) (sa:Option Addr) (sc:Nat) (L:List E5) (w:World):Prop where
 aN:∃adr U V olds n D,FO N rs ms adr U (Bb cp sg (os.take (k+1))).1 (Bb cp sg (os.take k)).1 (Bb cp sg (os.take (k+1))).2 V olds n D w/\n<=k+1
 box:w.heap[stb]?=some (.cells #[.slice fa (Bb cp sg (os.take (k+1))).1.length fc,.int .i64 (Bb cp sg (os.take (k+1))).2,.int .i64 cp,.bool sg] 27 (0,0))
 cu:Fk w fa (Bb cp sg (os.take (k+1))).1
 cap:(Bb cp sg (os.take (k+1))).1.length<=fc
 st:SO w w0.heap.size sa sc L
 eq:L.map DK=Ib rs ms cp sg os k
 ar:Bw w0 w
def ck0(rs w):(Instr.field 80 (LA (Bh rs)) 0).run prog w=.ok (I6 (Bh rs).1) w:=qf
def o_(h:P:=by go_enter func10,ntmps10;go_wp2_with (first|(go_at_call 41;refine af.o.an λw1 O=>?_;have Y:=Aa (Xr am cm ms (rs.length:Int) w1 (ai.o.J O) aj);rw[hm]at Y)|(go_at_call 43;refine Y.o.ac ?_;rintro e w2 ⟨rfl,rfl⟩)|fail);go_ret;exact⟨none,0,[],rfl,SO.nil _ _,HE.o.ai,O⟩):=h
def zmD(rs ms cp sg b a c am cm r s){q q'}(w)(hv:Do q w a rs)(m:rs.length<=c)(n:CP Ru.le 1048576 rs)(g:∀x∈rs,GW x.exprs)(i:Bf q' w am ms)(aj:ms.length<=1048576)(y:b.length<=1048576)(f:¬((Bh rs).1=0/\Hr ms rs.length=true/\0<=cp/\cp<=40/\b.length<=60)) :
  Ca 10 #[.slice a rs.length c,.slice am ms.length cm,I6 cp,.bool sg,.slice r b.length s] w (Uc (DO rs ms cp sg b) w):=by
 obtain⟨HE,af,ai⟩:=AQ (show DO rs ms cp sg b=[] from if_neg f) (mP a c rs w hv m n g) i;have p:=ck0 rs;obtain⟨j,l⟩:∃k,k=(Bh rs).1:=⟨_,rfl⟩
 obtain⟨A,d⟩:∃v,v=LA (Bh rs):=⟨_,rfl⟩
 rw[<-l]at f p;rw[<-d]at p af;clear d l hv m n g i;by_cases h0:j=0
 .subst h0;cases hm:Hr ms rs.length
  .exact o_
  by_cases B:cp<0
  .exact o_
  by_cases z:40<cp;rotate_left
  focus
   have t:(60:Int)<(b.length:Int):=by
    have:¬b.length<=60:=λq=>f ⟨rfl,hm,qd,qd,q⟩;omega
   clear f
  rotate_left
  all_goals
   go_enter func10,ntmps10;go_wp2_with (first|(go_at_call 41;refine af.o.an λw1 O=>?_;have Y:=Aa (Xr am cm ms (rs.length:Int) w1 (ai.o.J O) aj);rw[hm]at Y)|(go_at_call 43;refine Y.o.ac ?_;rintro e w2 ⟨rfl,rfl⟩)|fail);go_ret;exact⟨none,0,[],rfl,SO.nil _ _,HE.o.ai,O⟩
 have u:(j != 0)=true:=qC;clear f h0;go_enter func10,ntmps10;go_wp2_with (first|(go_at_call 41;refine af.o.an λw1 O=>?_)|fail);go_ret;exact⟨none,0,[],rfl,SO.nil _ _,HE.o.ai,O⟩
def Fk.J{w w' a gs}(h:Fk w a gs)(c:Bw w w'):Fk w' a gs:=λi f d=>by
 obtain⟨b,p,e,k⟩:=h i f d;exact⟨b,p,e,k.J c⟩
def Fk.cd{w w' a gs b Y}(h:Fk w a gs)(d:w.heap[b]?=some (.cells Y 27 (0,0)))(m:Turned w w' b):Fk w' a gs:=λi f l=>by
 obtain⟨g,p,e,k⟩:=h i f l;exact⟨g,p,e,k.keep λj c t n hj O=>(m.block j λq=>by
  subst q;exact CB hj d (by rcases O with rfl|rfl<;>decide)).j hj⟩
def FO.cd{N rs f adr U fs i nx V d n D w w' b Y}(h:FO N rs f adr U fs i nx V d n D w)(q:w.heap[b]?=some (.cells Y 27 (0,0)))(l:Turned w w' b):FO N rs f adr U fs i nx V d n D w':=by
 have O:∀(k:Nat)(o:Obj),w.heap[k]?=some o->(∀c,o≠.cells c 27 (0,0))->w'.heap[k]?=some o:=λk o a p=>(l.block k λe=>by
  subst e;rw[q]at a;injection a with a;exact p _ a.ai).j a
 obtain⟨es,r,g⟩:=IK h.mp;exact⟨h.st.kn ⟨l.J (yA _),λk c t s a hn=>O k _ a (λm e=>Tz),λk es r a _=>O k _ a (λm e=>qp)⟩,h.aN,Ii h.mp ((O _ _ g (λm e=>qp)).j g.ai),h.mv,h.low,h.tg,h.bu,h.rd,h.cX,h.bC⟩
structure GS(w w':World):Prop where
 rest:Below 0 w w'
 kept:∀(k:Nat)(o:Obj),w.heap[k]?=some o->(∀c,o≠.cells c 42 (0,0))->w'.heap[k]?=some o
def GS.j{u v w}(h:GS u v)(k:GS v w):GS u w:=⟨h.rest.j k.rest,λj o hj a=>k.kept j o (h.kept j o hj a) a⟩
def GS.ab{w w'}(h:Bw w w'):GS w w':=⟨h.ac (yA _),λk _ a _=>(h.block k (ym.1 a).1).j a⟩
def GS.bw{w w' b O}(f:w.heap[b]?=some (.cells O 42 (0,0)))(c:Turned w w' b):GS w w':=⟨c.J (yA _),λk o a d=>(c.block k λe=>by
 subst e;rw[f]at a;injection a with a;exact d _ a.ai).j a⟩
def GS.az{w w' b v n xs}(g:w.ownsRow b 42 5 v n xs)(d:w.grownBy w' v.ownBlock):GS w w':=⟨⟨d.os,d.tape,d.output,d.size,λk a=>absurd a qd⟩,λk o a O=>(d.block k (ym.1 a).1 λe=>by
 obtain⟨c,f⟩:=A8 g e.ai;rw[f]at a;injection a with a;exact O _ a.ai).j a⟩
def FO.cr{N rs f adr U fs i nx V a n D w w'}(h:FO N rs f adr U fs i nx V a n D w)(b:GS w w'):FO N rs f adr U fs i nx V a n D w':=by
 obtain⟨es,m,g⟩:=IK h.mp;exact⟨h.st.kn ⟨b.rest,λk c t o d hn=>b.kept k _ d (λl e=>Tz),λk es m d _=>b.kept k _ d (λl e=>qp)⟩,h.aN,Ii h.mp ((b.kept _ _ g (λl e=>qp)).j g.ai),h.mv,h.low,h.tg,h.bu,h.rd,h.cX,h.bC⟩
def Fk.cr{w w' a gs}(h:Fk w a gs)(d:GS w w'):Fk w' a gs:=λi f b=>by
 obtain⟨g,p,e,k⟩:=h i f b;exact⟨g,p,e,k.keep λj c t l hj O=>d.kept j _ hj (λm e=>by cases e;rcases O with q|q<;>revert q<;>decide)⟩
def Fk.ck{w w' a gs}(h:Fk w a gs)(c:CK w w'):Fk w' a gs:=λi f b=>by
 obtain⟨g,p,e,k⟩:=h i f b;exact⟨g,p,e,k.ck c⟩
def Iw.cr{w w' b base a c L}(h:Iw w b base a c L)(g:GS w w'):Iw w' b base a c L:=h.aQ λk c t f _ d=>(g.kept k _ d (λi e=>by cases e;rcases f with q|q<;>revert q<;>decide)).j d.ai
def so{P:World->Prop}{w b t x0 x1 f g O a c}(Y:w.heap[b]?=some (.cells #[x0,x1,f,g,O] t (0,0)))(h:∀wt,wt.heap[b]?=some (.cells #[x0,x1,a,c,O] t (0,0))->Turned w wt b->P wt):P ((w.setCell ⟨b,2,none⟩ a).setCell ⟨b,3,none⟩ c):=by
 have l:=Fq (i:=2) Y a;have h2:=Fq (i:=3) l c;refine h _ qv ?_;have d:Turned w (w.setCell ⟨b,2,none⟩ a) b:=Turned.setCells [a] 2 w b;have t2:Turned (w.setCell ⟨b,2,none⟩ a) ((w.setCell ⟨b,2,none⟩ a).setCell ⟨b,3,none⟩ c) b:=Turned.setCells [c] 3 _ b;exact⟨t2.os.j d.os,t2.tape.j d.tape,t2.output.j d.output,t2.size.j d.size,λk e=>(t2.block k e).j (d.block k e)⟩
def Gh.nil(adr):Gh adr [] (.map []):=⟨λt=>⟨λh=>(by simp[Maps.has]at h),λ⟨f,hf,_⟩=>Jp⟩,λf hf=>Jp⟩
def zjX{w:World}{b}(h:w.heap[b]?=some (.map #[] 0)):w.ownsMap prog 3 Bx b 0 (.map []):=by
 have a:b<w.heap.size:=(ym.1 h).1;obtain⟨w0,O⟩:∃w0:World,w0.heap.size=b:=⟨{ w with heap:=w.heap.extract 0 b },qg⟩
 have m:=WB (H:=Unit) w0 prog 3 Bx;have e:=heap_alloc_new w0 (.map #[] 0);rw[O]at m e;exact Ii m (h.j e.ai)
def LH.ev{N rs b adr V a w}(h:LH N adr [] [] V a rs b w)(hf:w.heap[N.fb]?=some (.map #[] 0)):FO N rs b adr [] [] [] 1 V a 0 (.map []) w:=by
 have Y:Eb N adr [] [] V a w:=⟨h.ok,h.bx,⟨λf hf=>Jp,λf hf=>hf,We,qe⟩,h.st,h.ol⟩
 have O:JH N rs b:=⟨h.len,h.bu⟩
 refine⟨Y,O,zjX hf,Gh.nil adr,λf hf=>Jp,λf hf=>Jp,λf hf=>Jp,λf hf=>Jp,λf hf=>Jp,λi r old c e=>?_⟩;obtain⟨m,d⟩:=O.at c;have:=h.bC i m old d e;rwa [(Y.cH O d c).1]at this
def zoT(rs y cp sg b a c am cm ao co){q q'}(w)(hv:Do q w a rs)(hc:rs.length<=c)(bC:CP Ru.le 1048576 rs)(a0:∀x∈rs,GW x.exprs)(bW:∀r∈rs,∀p∈r.af,∀t∈p.aa,C8 t.val)(bA:Bf q' w am y)(bX:Gj w ao b)(ad:∀o∈b,Gd o)(aE:(Bh rs).1=0)(aJ:Hr y rs.length=true)(h0:0<=cp)(bu:cp<=40)(df:b.length<=60) :
  Ca 10 #[.slice a rs.length c,.slice am y.length cm,I6 cp,.bool sg,.slice ao b.length co] w (Uc (DO rs y cp sg b) w):=by
 have HE:=Aa (show DO rs y cp sg b=Ib rs y cp sg b b.length from if_pos ⟨aE,aJ,h0,bu,df⟩);obtain⟨b8,bg⟩:y.all Dy=true/\y.length=rs.length:=by
  simp only[Hr,yk,decide_eq_true_eq]at aJ;exact⟨aJ.1,qd⟩
 have dy:=(Sb aE).1;have bn:=Aa (mP a c rs w hv hc bC a0);have bF:LA (Bh rs)=.agg #[I6 0,I6 (Bh rs).2.1,I6 (Bh rs).2.2]:=by simp[LA,aE]
 obtain⟨z1,bV⟩:∃z,z=(Bh rs).2.1:=⟨_,rfl⟩
 obtain⟨z2,cr⟩:∃z,z=(Bh rs).2.2:=⟨_,rfl⟩
 rw[bF,<-bV,<-cr]at bn;have de:∀u:World,(Instr.field 80 (.agg #[I6 0,I6 z1,I6 z2]) 0).run prog u=.ok (I6 0) u:=λ_=>by kernel_rfl
 obtain⟨bM,bJ,da,bt,br,cY⟩:=Hl (λ(u:World)(W:Bw w u)=>(show Ca 43 #[.slice am y.length cm,I6 (rs.length:Int)] u λe w'=>e=.returned (.bool true)/\w'=u by rw[<-aJ];exact Xr am cm y (rs.length:Int) u (bA.J W) qd)) (λ(u:World)(W:Bw w u)=>zoK rs y a c am cm u (hv.J W) bC bW aE (bA.J W) b8 bg) bX ad aE bg;have n0:¬cp<0:=qd;have dv:¬40<cp:=qd;have dA:¬(60:Int)<(b.length:Int):=qd;have b7:=Aa (λk=>Om (cp:=cp) (sg:=sg) h0 bu b k);clear hv hc bC a0 bW bA bX ad aE aJ h0 bu b8 bg bV cr bF;go_enter func10,ntmps10;go_upto_region 8 with(first|(go_at_call 41;refine bn.o.an λw1 aH=>?_)|(go_at_call 43;refine(bM.o w1 aH).ac ?_;rintro e w2 ⟨rfl,rfl⟩)|(go_at_call 44;refine(bJ.o _ aH).ac ?_;rintro e R ⟨N,adr,V,l,rfl,hN,bU,bL,hbase,hB⟩;have NF:=Aa (hN.ev bU);have B3:=Aa (aH.aj bL);have ch:=Aa (show w.heap.size<=N.base by rw[hbase];exact aH.size);clear hN bU bL hbase hB aH)|fail);refine Bt ?_;intro w4 bm cC;have cq:=Aa (show ZG w N rs y cp sg b 0 R.heap.size none 0 none 0 [] w4 from⟨⟨adr,[],V,l,0,_,NF.o.J bm,yX _⟩,cC,λi f hf=>(by simp[Bb]at hf),yX _,SO.nil _ _,rfl,B3.o.aj bm⟩);have dm:w.heap.size<=R.heap.size:=B3.o.size;clear bm cC NF B3 bn bM bJ de;go_wp2_with fail
 go_loopw [48,13] (λiv sv wr=>∃(k:Nat)(fa:Option Addr)(fc:Nat)(sa:Option Addr)(sc:Nat)(L:List E5),iv=I6 (k:Int)/\k<=b.length/\sv=.slice sa L.length sc/\L.length=k/\ZG w N rs y cp sg b k R.heap.size fa fc sa sc L wr) (λiv _ _=>b.length-(intOf iv).toNat)
 case atStart=>exact⟨0,none,0,none,0,[],rfl,yA _,rfl,rfl,cq.o⟩
 case round=>
  obtain⟨k,fa,fc,sa,sc,L,rfl,b6,rfl,ci,cy⟩:=hrel;obtain⟨HLK,s⟩:=Ak ci cy;clear ci cy cq;by_cases hk:k<b.length
  .obtain⟨o,ho⟩:=AJ hk;have bh:=yd ho;obtain⟨ob,op,cU,dd,dc,o0,o1,o2,o3,cn⟩:=da.o k o ho;subst dc;have B:=s.o.ar;have x0:=zab B o0;have x1:=zab B o1;have x2:=zab B o2;have x3:=zab B o3;have dk:=Aa (cn.J B);obtain⟨fs,aD⟩:∃fs,fs=(Bb cp sg (b.take k)).1:=⟨_,rfl⟩
   obtain⟨nx,I⟩:∃nx,nx=(Bb cp sg (b.take k)).2:=⟨_,rfl⟩
   have aX:VS fs nx cp sg:=by rw[aD,I];exact b7.o k
   have aP:=s.o.box;have aO:=s.o.cap;have bp:=s.o.cu;rw[<-aD,<-I]at aP;rw[<-aD]at aO bp;have dx:fs.length<=40:=by have:=aX.len;have:=aX.bc;omega
   have b5:∀f∈fs,Cq f/\AV f:=by
    obtain⟨_,_,_,_,_,_,hF,_⟩:=s.o.aN;rw[aD];exact hF.rd
   obtain⟨bO,az,M,aw,bz,HO,cJ⟩:=H5 (λ(u:World)(W:Bw wr u)=>xr o (bt.o o bh) fa fc fs nx cp sg cU dd u (bp.at_.J W) aO (dk.o.J W) qd b5) aP aD I aX ho bh;have z0:(0:Int)<=(k:Int):=qd;have z1:(k:Int)<(b.length:Int):=qd;have bP:Bw w wr:=B;have cB:=Aa bP;clear bh o0 o1 o2 o3 cn B ho aD I aX aO bp b5 bP aP;go_upto_region 11 with fail;refine Bt ?_;intro w5 bD cH;have aS:=Aa bD;obtain⟨y0,y1,y2,y3⟩:=AO cH;have a8:=(bD.block _ (As az.o)).j az.o;obtain⟨s0,s1,s2,s3⟩:=AO a8;clear bD cH x0 x1 x2 x3;go_upto_region 12 with(first|(go_at_call 45;refine(bO.o w5 aS.o).ac ?_;rintro e w6 ⟨⟨ga,gc,gx,rfl,bT⟩,bI⟩;have aU:=Aa bT;have bB:=Aa bI;clear bT bI;dsimp only[C6.val])|fail);refine Bt ?_;intro w7 bj K;obtain⟨r,hr⟩:∃r,r=BF fs nx cp sg o:=⟨_,rfl⟩
   rw[<-hr]at K aU⊢;obtain⟨HR,cw,H⟩:=AQ hr K (show Bw wr w7 from(aS.o.aj bB.o).j (bj.ac (yi aS.o.size bB.o.size)));have c0:=AF (L:=[_,_,_,_,_,_]) K (j:=0) rfl;have c1:=AF (L:=[_,_,_,_,_,_]) K (j:=1) rfl;have c2:=AF (L:=[_,_,_,_,_,_]) K (j:=2) rfl;have c3:=AF (L:=[_,_,_,_,_,_]) K (j:=3) rfl;have c4:=AF (L:=[_,_,_,_,_,_]) K (j:=4) rfl;have cV:=Aa (show Fk w7 ga r.fs from aU.o.et.J bj);have dl:r.fs.length<=gc:=MP aU.o.own;have O:=(H.o.block _ (As az.o)).j az.o;have aA:=Aa O;have aI:∀j,w7.frozen? ⟨R.heap.size,j,none⟩=false:=λj=>by simp[World.frozen?,O]
   have e0:=AF (L:=[_,_,_,_]) O (j:=0) rfl;have e1:=AF (L:=[_,_,_,_]) O (j:=1) rfl;have e2:=AF (L:=[_,_,_,_]) O (j:=2) rfl;have e3:=AF (L:=[_,_,_,_]) O (j:=3) rfl;have cj:=aI 0;have cM:=aI 1;have cK:=aI 2;have bS:=aI 3;have bY:R.heap.size≠w6.heap.size:=λe=>by
    rw[e]at O;exact CB K O qh
   have RK:=Aa (PQ (cp:=cp) (sg:=sg) HO.o);clear bj K hr s0 s1 s2 s3 y0 y1 y2 y3 bO aU bB aS aI a8 O;go_upto_if 57 with fail
   go_cut [] (λwx=>∃aY aZ,ZF w N rs y cp sg b k R.heap.size aY aZ sa sc L wx/\wx.heap[w6.heap.size]?=some (.cells #[.slice ga r.fs.length gc,I6 r.nx,I6 r.cp,.bool r.sg,I6 r.code,I6 r.tag] 87 (0,0)))
   case first=>
    by_cases hc:r.code=0
    .have dh:(r.code==0)=true:=qY;obtain⟨adr,U,V,l,n,D,hF,hn⟩:=s.o.aN;rw[<-M.o,<-aw.o]at hF;have ar:Bb cp sg (b.take (k+1))=(r.fs,r.nx):=by
      rw[RK.o,<-M.o,<-aw.o];unfold IG;rw[<-HR.o,if_pos hc]
     obtain⟨cf,cD⟩:r.cp=cp/\r.sg=sg:=by
      have ht:=Si o bz.o;rw[<-HR.o]at ht;rcases ht with ht|⟨_,_,t3,t4,_⟩
      .rw[hc]at ht;cases ht
      exact⟨t3,t4⟩
     obtain⟨aT,cT,di,HF,c9⟩:=DU ar cf cD (hF.J H.o) hc;clear hF ar cf cD hc;go_upto_region 14 with fail;refine R_ aA.o ?_;intro w8 bf C;have F8:=Aa (HF.o.cd aA.o C);have bR:=Aa (cV.o.cd aA.o C);have dj:=Aa ((s.o.st.ck (CK.ab H.o)).aQ (λk cs t cW _ hk=>C.block k (λe=>by
      subst e;exact CB hk aA.o (by rcases cW with rfl|rfl|rfl<;>decide))))
     obtain⟨cu,B8,b4⟩:=AQ ((C.block _ bY.ai).j cw.o) (show Bw w w8 from(cB.o.aj H.o).j (C.J dm)) (F8.o.follow (o:=o) (a:=ga) (c:=gc) (gs:=r.fs) (nx':=r.nx) bz.o (by rw[HR.o]) (by rw[HR.o]) (by rw[<-HR.o];exact c9.o) qd (bt.o o cJ.o).cq (bt.o o cJ.o).ak bR.o);have d0:=AF (L:=[_,_,_,_]) bf (j:=0) rfl;have cN:=Aa bf;clear bf C c0 c1 c2 c3 c4 e0 e1 e2 e3 cj cM cK bS;go_wp2_with fail;refine b4.o.an λw9⟨⟨adr',U',V',n',D',bo,cZ⟩,aF⟩=>?_;obtain⟨A,cG⟩:=Ak (show ZF w N rs y cp sg b k R.heap.size ga gc sa sc L w9 from⟨⟨adr',U',V',l,n',D',by rw[aT.o];rw[M.o]at bo;exact bo,qd⟩,by rw[aT.o,<-cT.o,<-di.o];exact aF.kept _ _ _ _ cN.o qh qh,by rw[aT.o];exact bR.o.fn aF,by rw[aT.o];exact dl,dj.o.fn aF,s.o.eq,B8.o.j (aF.low _ ch.o B8.o.size)⟩) (aF.kept _ _ _ _ cu.o qh qh);clear bo cZ aF b4;go_wp2_with fail;go_meet;exact⟨_,_,A.o,cG.o⟩
    .have dh:(r.code==0)=false:=qY;have ar:Bb cp sg (b.take (k+1))=Bb cp sg (b.take k):=by
      rw[RK.o,<-M.o,<-aw.o];unfold IG;rw[<-HR.o,if_neg hc,M.o,aw.o]
     have A:=Aa (show ZF w N rs y cp sg b k R.heap.size fa fc sa sc L w7 from by
      obtain⟨adr,U,V,l,n,D,hF,hn⟩:=s.o.aN;refine⟨⟨adr,U,V,l,n,D,by rw[ar];exact hF.J H.o,qd⟩,by rw[ar];exact(H.o.block _ (As s.o.box)).j s.o.box,by rw[ar];exact s.o.cu.J H.o,by rw[ar];exact s.o.cap,s.o.st.ck (CK.ab H.o),s.o.eq,cB.o.aj H.o⟩)
     clear hc ar;go_wp2_with fail;go_meet;exact⟨_,_,A.o,cw.o⟩
   case rest=>
    obtain⟨aY,aZ,bw,aV⟩:=hcut;obtain⟨A,dw⟩:=Ak bw aV;obtain⟨adr,U,V,l,n,D,hF,hn⟩:=bw.aN;obtain⟨ae,ay⟩:∃fs,fs=(Bb cp sg (b.take (k+1))).1:=⟨_,rfl⟩
    obtain⟨ag,aC⟩:∃nx,nx=(Bb cp sg (b.take (k+1))).2:=⟨_,rfl⟩
    rw[<-ay,<-aC]at hF;have aM:VS ae ag cp sg:=by rw[ay,aC];exact b7.o (k+1)
    obtain⟨cS,cX,a4,bQ,bi⟩:=DU hF aM ay aC (λ(u:World)(W:Bw wc u)=>(hF.J W).dy br.o aM cY.o);obtain⟨Z,hZ⟩:∃Z,Z=JO rs y ae:=⟨_,rfl⟩
    rw[<-hZ]at bi;have HZ:=Aa hZ;have c4:=AF (L:=[_,_,_,_,_,_]) aV (j:=4) rfl;have c5:=AF (L:=[_,_,_,_,_,_]) aV (j:=5) rfl;clear bw aV hF ay aC aM hZ;obtain⟨E,rfl⟩:∃v,v=wc:=⟨wc,rfl⟩
    go_upto_region 15 with fail
    go_cut [17] (λsv wx=>sv=Pn E.heap.size/\wx=(E.alloc (.cells #[I6 r.code,I6 r.tag,.slice none 0 0,.slice none 0 0,I6 Z] 42)).drew)
    case first=>
     go_region_held3 (λu=>At u w6.heap.size 4 (I6 r.code)/\At u w6.heap.size 5 (I6 r.tag))
      ((go_split_ands;first|done|(refine⟨?_,?_⟩<;>first|assumption|exact zab Aj.drew qj|exact zab Af qj|exact zab Af.drew qj))) (first|(go_at_call 47;refine(bi.o _ (by first|exact Aj.drew|exact Aj.drew.alloc AA _)).an λdz cI=>?_;subst cI)|fail)
     .go_wp2_with fail
      go_meet;exact⟨rfl,rfl⟩
     .go_wp2_with fail
      go_meet;exact⟨rfl,rfl⟩
    case rest=>
     obtain⟨rfl,bv⟩:=hcut;have bk:Bw E wc:=by
      rw[bv];exact Af.drew
     have bl:wc.heap[E.heap.size]?=some (.cells #[I6 r.code,I6 r.tag,.slice none 0 0,.slice none 0 0,I6 Z] 42 (0,0)):=by
      rw[bv];exact heap_alloc_new _ _
     have bE:=cS.o.J bk;have a7:∀r∈rs,(∀T∈FL r fs,T.length<=3)/\(FL r fs).length<=1000000:=λr hr=>by
      obtain⟨i,hi⟩:=YD hr;obtain⟨adr0,U0,V0,ds,n0,D0,au,_⟩:=s.o.aN;rw[<-M.o,<-aw.o]at au;obtain⟨m,hm⟩:=au.aN.at hi;obtain⟨d,_,hX,_⟩:=au.aN.bu i m r hm hi;have hl:fs.length<=100:=qd;exact⟨λT hT=>((au.st.cH au.aN hm hi).2 T hT).1,iU (Rs br.o hr hX) hX (au.st.bx.pre au.st.lk (yd hm)).2.1 hl⟩
     rw[<-M.o]at bE;obtain⟨bd,aG,dq⟩:=AQ (bE.cY br.o cX.o a7 (PF bz.o.aW)) bk bl;have g2:=AF (L:=[_,_,_,_,_]) bl (j:=2) rfl;clear bv bk bl bE a7 bi c4 c5 c0 c1 c2 c3 e0 e1 e2 e3 cj cM cK bS g2;go_wp2_with fail;refine bd.o.ac ?_;rintro e bG ⟨P,Q,pa,qa,pc,qc,rfl,hP,hQ,b9,bN,eP,eQ,⟨olds',a6⟩,cg,ax⟩;have aQ:=ax _ _ _ _ dq.o;obtain⟨bZ,cL,cR,cO,cQ,c8,bc,aN,av⟩:=Ja hP hQ b9 bN eP eQ a6 cg ax;have cd:=Aa aQ;have fe:∀j,bG.frozen? ⟨E.heap.size,j,none⟩=false:=λj=>by simp[World.frozen?,aQ]
     have cP:=fe 2;have dr:=fe 3;have g0:=AF (L:=[_,_,_,_,_]) aQ (j:=2) rfl;have g1:=AF (L:=[_,_,_,_,_]) aQ (j:=3) rfl;clear hP hQ b9 bN eP eQ a6 cg ax aQ bd fe;go_upto_region 17 with fail;refine so cd.o ?_;intro G af aq;have aL:=Aa (GS.bw cd.o aq);have dt:=Aa af;have aW:E.heap.size<=wc.heap.size:=aG.o.size;have cA:=Aa A.o.st;have a5:=Aa (show SO G w.heap.size sa sc L from cA.o.aQ λk cs t _ _ hk=>by
      have b6:=As hk;rw[aq.block k qd,av.o _ _ _ _ ((aG.o.block k b6).j hk),hk])
     obtain⟨Y,cv⟩:=Ak (λo=>Aj.alloc AA o:∀o,Bw G (G.alloc o)) (show Bw w G from((A.o.ar.aj aG.o).j (show Below w.heap.size wc bG from⟨aN.o.rest.os,aN.o.rest.tape,aN.o.rest.output,aN.o.rest.size,λg hg=>aN.o.block g (by have:=A.o.ar.size;omega) (λ⟨m,hm,hs⟩=>by have h1:=bc.o.st.ok.dk m hm g hs;have h2:=ch.o;omega)⟩)).j (aq.J A.o.ar.size));have bK:w.heap.size<=G.heap.size:=cv.o.size;have bq:=Aa a5.o.row;obtain⟨q0,q1,q2,q3,q4⟩:At G E.heap.size 0 (I6 r.code)/\At G E.heap.size 1 (I6 r.tag)/\At G E.heap.size 2 (.slice pa P.length pc)/\At G E.heap.size 3 (.slice qa Q.length qc)/\At G E.heap.size 4 (I6 Z):=⟨AF (L:=[_,_,_,_,_]) af (j:=0) rfl,AF (L:=[_,_,_,_,_]) af (j:=1) rfl,AF (L:=[_,_,_,_,_]) af (j:=2) rfl,AF (L:=[_,_,_,_,_]) af (j:=3) rfl,AF (L:=[_,_,_,_,_]) af (j:=4) rfl⟩
     have dB:L.length<=60:=by rw[HLK.o];omega
     have du:=Aa aq;clear af aq g0 g1 cP dr;go_upto_region 18 with(first|(at_builtin;refine EU qi (.tmp 78) (.tmp 80) 34 qi w.heap.size 42 _ 5 72 underlying34 fP qi qd _ L.length _ qi (Bg bq.o (Y.o _)) (some ⟨_,0,none⟩) 1 1 qi (DJ ⟨r.code,r.tag,Z,.slice pa P.length pc,.slice qa Q.length qc,P,Q⟩) qi (λe=>qp) (Et _ _ _ _ qH) qT qm qd qg ?_;intro cE cz ce a9 aB b0)|fail);have aK:=Aa ((aL.o.j (GS.ab (Y.o _))).j (GS.az (Bg bq.o (Y.o _)) aB.o));have aR:FE (G.alloc (.cells #[I6 r.code,I6 r.tag,.slice pa P.length pc,.slice qa Q.length qc,I6 Z] 42)) E.heap.size ⟨r.code,r.tag,Z,.slice pa P.length pc,.slice qa Q.length qc,P,Q⟩:=⟨⟨pa,pc,rfl,((bZ.o.cr aL.o).ar (Y.o _)).lower aW aW⟩,⟨qa,qc,rfl,((cL.o.cr aL.o).ar (Y.o _)).lower aW aW⟩⟩
     have cF:=Aa (cA.o.snoc (a5.o.ck (CK.ab (Y.o _))) aR cR.o cO.o A.o.ar.size a9.o aB.o);have dp:=Aa (show Bw w ce from((cv.o.j ((Y.o _).ac bK)).grown aB.o (yi bK (Y.o _).size) (λg hg=>(bq.o.lt g hg).1)));have bH:=Aa (show ZG w N rs y cp sg b (k+1) R.heap.size aY aZ cE cz (L++[⟨r.code,r.tag,Z,.slice pa P.length pc,.slice qa Q.length qc,P,Q⟩]) ce from⟨⟨adr,U,V,olds',n,D,by rw[<-a4.o,<-bQ.o];exact bc.o.cr aK.o,hn⟩,aK.o.kept _ _ (av.o _ _ _ _ ((aG.o.block _ (As A.o.box)).j A.o.box)) (λc' e=>qp),((A.o.cu.J aG.o).ck av.o).cr aK.o,A.o.cap,cF.o,by
      rw[yJ,A.o.eq,lI HO.o];congr 1;simp only[yn,YF,DK,Rf,cQ.o,c8.o,HZ.o];rw[<-M.o,<-aw.o,<-HR.o,a4.o,RK.o,<-M.o,<-aw.o],dp.o⟩)
     clear b0 a9 aB aR;go_wp2_with fail;go_roundw
     case rel=>exact⟨k+1,aY,aZ,cE,cz,_,ql,qd,qe,by simp[HLK.o],bH.o⟩
     case measure=>(simp[intOf];omega)
  obtain rfl:k=b.length:=qd;have hy:¬(b.length:Int)<(b.length:Int):=qd;go_wp2_with fail;go_ret;exact⟨sa,sc,L,rfl,s.o.st,by rw[s.o.eq,HE.o],s.o.ar⟩
end
section
attribute [local go_sem ↓] wp_at_zero wp_at_succ
def rq{fs nx cp sg o}(h:VS fs nx cp sg)(b:Gd o)(d:∀f∈fs,Cq f/\AV f):∀f∈(IG fs nx cp sg o).1,Cq f/\AV f:=by
 unfold IG;split
 .rename_i j;obtain⟨K,m,Y⟩:=kR o h j;intro f a;have a:f∈(BF fs nx cp sg o).fs:=a;rw[Y.eq]at a;have O:(Lit.int .i64 nx).wf=true:=by
   have q:=h.cF;have p:=h.de;exact OE qd qd
  rcases yr.1 a with a|a
  .exact d f (Y.sub.subset a)
  obtain⟨l,c,n,k⟩:=Y.bP f a;refine⟨⟨by rw[l];exact O,by rw[c];exact b.cq⟩,?_,?_,by rw[c];exactλv hv=>(b.cq v hv).2.2⟩
  .rcases k with⟨e,_⟩|⟨g,i,e⟩
   .rw[e];exact b.ak
   rw[<-e];exact(d g i).2.1
  rw[c];exact b.len
 exact d
def gu{cp sg}(c:0<=cp)(O:cp<=40){b:List Wo}(a:∀o∈b,Gd o):∀k,∀f∈(Bb cp sg (b.take k)).1,Cq f/\AV f
 |0=>λf d=>(by cases d)
 |k+1=>by
  have Y:=gu (sg:=sg) c O a k
  cases h:b[k]? with
  |none=>
   have hl:b.length<=k:=qq
   rw[yu hl]at Y
   rw[yu qd]
   exact Y
  |some o=>
   rw[PQ h]
   exact rq (Om c O b k) (a o (yd h)) Y
def VS.dW{rs fs nx cp sg}(h:VS fs nx cp sg)(O:(Bh rs).1=0):Fd rs fs=true:=by
 unfold Fd DC;have b:=h.len;have a:=h.bc;rw[decide_eq_true O,decide_eq_true (show fs.length<=40 by omega),h.aW];rfl
def VS.bq{rs fs nx cp sg}(h:VS fs nx cp sg)(O:(Bh rs).1=0):Mu (Cs fs 0 rs)/\JD (Cs fs 0 rs):=by
 have a:=mQ (h.dW O) rs.length;rw[yW]at a;exact⟨a,U2 (PF h.aW) (λr b=>P6 O b) 0⟩
structure SM(w:World) (b:Nat) (a:Option Addr) (c:Nat) (L:List E5):Prop where
 row:w.ownsRow b 42 5 (.slice a L.length c) L.length (L.flatMap DJ)
 each:∀x∈L,FE w b x
def SM.nil(w b):SM w b none 0 []:=⟨y9 _ _ _ _,λx a=>(by cases a)⟩
def SM.aQ{w w' b a c L}(h:SM w b a c L)(e:∀(k:Nat)c t,(t=42∨t=45∨t=3)->b<=k->w.heap[k]?=some (.cells c t (0,0))->w'.heap[k]?=w.heap[k]?):SM w' b a c L:=
 ⟨BZ h.row λg d=>by
  obtain⟨f,O⟩:=A8 h.row d
  exact e g f _ (.inl rfl) (h.row.lt g d).1 O,λx j=>(h.each x j).aQ λk c t i=>e k c t (.inr i)⟩
def SM.ar{w w' b a c L}(h:SM w b a c L)(d:Bw w w'):SM w' b a c L:=h.aQ λk _ _ _ _ e=>d.block k (As e)
def SM.snoc{w w' b a g c i L x}(h:SM w b a c L)(l:FE w b x)(ho:w'.ownsRow b 42 5 (.slice g (L.length+1) i) (L.length+1) (L.flatMap DJ++DJ x))(j:w.grownBy w' (Value.slice a L.length c).ownBlock):SM w' b g i (L++[x]):=by
 refine⟨Qz,λy d=>?_⟩;have O:FE w b y:=by
  rcases yr.1 d with d|d
  .exact h.each y d
  rw[yv.1 d];exact l
 exact O.aQ λk cs t ht _ f=>j.block k (As f) λe=>by
  obtain⟨m,Y⟩:=A8 h.row e.ai;exact CB f Y qs
def Zs(stb:Nat)(v:Value)(b:Nat):Prop:=b≠stb/\v.ownBlock≠some b
structure Je(w0:World) (rs:List Ru) (ms:List Int) (cp:Int) (sg:Bool) (os:List Wo) (k j stb:Nat) (fa:Option Addr) (fc:Nat) (sa:Option Addr) (sc:Nat) (L:List E5) (w:World):Prop where
 box:w.heap[stb]?=some (.cells #[.slice fa (Bb cp sg (os.take j)).1.length fc,.int .i64 (Bb cp sg (os.take j)).2,.int .i64 cp,.bool sg] 27 (0,0))
 cu:DD (Zs stb (.slice sa L.length sc)) w fa (Bb cp sg (os.take j)).1
 cap:(Bb cp sg (os.take j)).1.length<=fc
 st:SM w w0.heap.size sa sc L
 eq:L.map DK=Ib rs ms cp sg os k
 ar:Bw w0 w
def Je.J{w0 rs c cp sg e k j stb fa fc sa d L w w'}(h:Je w0 rs c cp sg e k j stb fa fc sa d L w)(a:Bw w w'):Je w0 rs c cp sg e k j stb fa fc sa d L w':=
 ⟨(a.block _ (As h.box)).j h.box,h.cu.kept λb _ hl=>a.block b hl,h.cap,h.st.ar a,h.eq,h.ar.aj a⟩
def T0(L0:List Iy)(w:World)(e:Ending)(w':World):Prop:=∃(sa:Option Addr)(sc:Nat)(L:List E5),e=.returned (.slice sa L.length sc)/\SM w' w.heap.size sa sc L/\L.map DK=L0/\Bw w w'
def XY(h:P:=by go_enter func11,ntmps11;go_wp2_with (first|(go_at_call 49;refine HC.o.an λw1 O=>?_)|fail);go_ret;exact⟨none,0,[],rfl,SM.nil _ _,HE.o.ai,O⟩):=h
def zmU(rs b cp sg e a c r m l n){q}(w)(hv:Do q w a rs)(i:rs.length<=c)(k:CP Ru.le 1048576 rs)(Y:∀x∈rs,GW x.exprs)(f:¬((Bh rs).1=0/\b.length=rs.length/\0<=cp/\cp<=40/\e.length<=60)) :
  Ca 11 #[.slice a rs.length c,.slice r b.length m,I6 cp,.bool sg,.slice l e.length n] w (T0 (DO rs b cp sg e) w):=by
 have HE:=Aa (show DO rs b cp sg e=[] from if_neg λh=>f ⟨h.1,by
  have j:=h.2.1;simp only[Hr,yk,decide_eq_true_eq]at j;omega,h.2.2⟩)
 have HC:=Aa (mU rs a c w hv i k Y);clear hv i k Y;by_cases d:(Bh rs).1=0
 .rw[decide_eq_true d]at HC;by_cases g:b.length=rs.length
  .have p:((b.length:Int) != (rs.length:Int))=false:=by simp;omega
   by_cases j:cp<0
   .clear f d g;exact XY
   by_cases s:40<cp;rotate_left
   focus
    have t:(60:Int)<(e.length:Int):=by
     have:¬e.length<=60:=λq=>f ⟨d,g,qd,qd,q⟩;omega
   rotate_left
   all_goals
    clear f d g;go_enter func11,ntmps11;go_wp2_with (first|(go_at_call 49;refine HC.o.an λw1 O=>?_)|fail);go_ret;exact⟨none,0,[],rfl,SM.nil _ _,HE.o.ai,O⟩
  have p:((b.length:Int) != (rs.length:Int))=true:=by simp;omega
  clear f d g;exact XY
 rw[decide_eq_false d]at HC;clear f d;exact XY
def DD.lt{Z w a fs}(h:DD Z w a fs):DD (λb=>Z b/\b<w.heap.size) w a fs:=λi f p=>by
 obtain⟨b,o,n,t,d,k,m,c,l,r⟩:=h i f p;refine⟨b,o,⟨n,yZ w ⟨b,_,none⟩ d⟩,t,d,k,m,c,l,λj v hv=>?_⟩;obtain⟨Y,o',O,q,e,s,g⟩:=r j v hv;exact⟨Y,o',⟨O,yZ w ⟨Y,_,none⟩ e⟩,q,e,s,g⟩
def sw{x}(h:Dy x=true):x=0∨x=1:=by
 simpa[Dy] using h
def vI{a:List Int}{k x}(h:(a.take k).all Dy=true)(b:a[k]?=some x)(c:Dy x=true):(a.take (k+1)).all Dy=true:=by
 rw[yY,b,KU,h];simp[c]
def Je.grow{w0 rs f cp sg i k stb fa fc sa O l Y L o u w' x}(h:Je w0 rs f cp sg i k (k+1) stb fa fc sa l L o)(n:Bw o u)(q:FE u w0.heap.size x)(s:w'.ownsRow w0.heap.size 42 5 (.slice O (L.length+1) Y) (L.length+1) (L.flatMap DJ++DJ x))(d:u.grownBy w' (Value.slice sa L.length l).ownBlock)(hl:(Value.slice O (L.length+1) Y).ownBlock=(Value.slice sa L.length l).ownBlock∨(Value.slice O (L.length+1) Y).ownBlock=some u.heap.size)(p:Ib rs f cp sg i (k+1)=Ib rs f cp sg i k++[DK x]):Je w0 rs f cp sg i (k+1) (k+1) stb fa fc O Y (L++[x]) w':=by
 have a:=h.J n;have w:=n.size;refine⟨?_,?_,h.cap,a.st.snoc q s d,by rw[yJ,h.eq,p];rfl,?_⟩
 .refine(d.block stb (As a.box) λe=>?_).j a.box;obtain⟨v,r⟩:=A8 a.st.row e.ai;exact CB r a.box qh
 .refine DD.ac (h.cu.lt.kept (w':=w') λb c m=>?_) λb c=>⟨c.1.1,λe=>?_⟩
  .exact(d.block b qd (K7 c.1.2)).j (n.block b m)
  have e:(Value.slice O (L.length+1) Y).ownBlock=some b:=by simpa using e
  rcases hl with hl|hl
  .exact c.1.2 (hl.ai.j e)
  rw[hl]at e;injection e with e;have:=c.2;omega
 exact a.ar.grown d a.ar.size (λg t=>(a.st.row.lt g t).1)
def zoQ(rs g cp sg d a c am cm ao co){q q'}(w)(hv:Do q w a rs)(hc:rs.length<=c)(bY:CP Ru.le 1048576 rs)(a0:∀x∈rs,GW x.exprs)(bk:Bf q' w am g)(bH:Gj w ao d)(aa:∀o∈d,Gd o)(aw:(Bh rs).1=0)(bv:g.length=rs.length)(h0:0<=cp)(aY:cp<=40)(cF:d.length<=60) :
  Ca 11 #[.slice a rs.length c,.slice am g.length cm,I6 cp,.bool sg,.slice ao d.length co] w (T0 (DO rs g cp sg d) w):=by
 obtain⟨HE,bG,HC⟩:=AQ (λ(h:g.all Dy=true)=>(show DO rs g cp sg d=Ib rs g cp sg d d.length from if_pos ⟨aw,by rw[Hr,h,YP];exact decide_eq_true qd,h0,aY,cF⟩)) (λ(h:¬g.all Dy=true)=>(show DO rs g cp sg d=[] from if_neg λk=>h (by have:=k.2.1;simp only[Hr,yk]at this;exact this.1))) (mU rs a c w hv hc bY a0);rw[decide_eq_true aw]at HC;have cP:g.length<=16:=by have:=RM aw;omega
 obtain⟨bp,bX,cK,cz,cA,N,bh,cJ⟩:=NG (λ(u:World)(h:Bw w u)(fs:List F)(nx:Int)(cy:VS fs nx cp sg)(fa:Option Addr)(fc:Nat)(hf:BC u fa fs)=>zir rs fs a c fa fc u (hv.J h) hf (cy.dW aw)) (λ(u:World)(h:Bw w u)(fs:List F)(fa:Option Addr)(fc:Nat)(hf:BC u fa fs)(hl:fs.length<=40)=>zo8 rs g fs a c am cm fa fc u (hv.J h) (bk.J h) hf aw bv hl) bk bH aa aw (λk=>Om (cp:=cp) (sg:=sg) h0 aY d k) (λk=>gu (cp:=cp) (sg:=sg) h0 aY aa k);have k1:((g.length:Int) != (rs.length:Int))=false:=by simp;omega
 have n0:¬cp<0:=qd;have cR:¬40<cp:=qd;have cT:¬(60:Int)<(d.length:Int):=qd;clear hv hc bY a0 bk bH aa aw h0 aY bv;go_enter func11,ntmps11;go_wp2_with (first|(go_at_call 49;refine HC.o.an λw1 bt=>?_;have B1:=Aa bt;clear bt HC)|fail)
 go_loopw [45] (λiv wr=>∃(k:Nat),iv=I6 (k:Int)/\k<=g.length/\(g.take k).all Dy=true/\Bw w wr) (λiv _=>g.length-(intOf iv).toNat)
 case atStart=>exact⟨0,rfl,yA _,rfl,B1.o⟩
 case round=>
  obtain⟨k,rfl,cv,a6,hb⟩:=hrel;obtain⟨aT,BR⟩:=Ak a6 hb;clear a6 hb B1;have z0:(0:Int)<=(k:Int):=qd;by_cases H:k<g.length
  .obtain⟨x,hx⟩:=AJ H;obtain⟨mb,mo,rfl,_,m0⟩:=(cK.o.J BR.o).get hx;have z1:(k:Int)<(g.length:Int):=qd;by_cases p:Dy x=true
   .have HN:=Aa (vI aT.o hx p);have h2:=sw p;clear hx p;rcases h2 with rfl|rfl
    all_goals
     go_wp2_with fail;go_roundw
     case rel=>exact⟨k+1,ql,qd,HN.o,BR.o⟩
     case measure=>(simp[intOf];omega)
   have HN:=Aa (bG.o λh=>p (YX.1 h x (yd hx)));have x0:(x != 0)=true:=by simp;intro e;exact p (by rw[e];rfl)
   have x1:(x != 1)=true:=by simp;intro e;exact p (by rw[e];rfl)
   clear hx p;go_wp2_with fail;go_ret;exact⟨none,0,[],rfl,SM.nil _ _,HN.o.ai,BR.o⟩
  have bR:k=g.length:=qd;have hy:¬(k:Int)<(g.length:Int):=qd;have HF:=Aa (HE.o (by have:=aT.o;rwa [bR,yW]at this));clear bR aT HE bG;go_upto_region 10 with fail;refine Bt ?_;intro w2 bW a9;have B2:=Aa (BR.o.aj bW);obtain⟨stb,aC⟩:∃b,b=wr.heap.size:=⟨_,rfl⟩
  rw[<-aC]at a9;(try rw[<-aC]);have cM:w.heap.size<=stb:=by rw[aC];exact BR.o.size
  have bQ:=Aa (show Je w rs g cp sg d 0 0 stb none 0 none 0 [] w2 from⟨a9,λi f hf=>(by simp[Bb]at hf),yX _,SM.nil _ _,rfl,B2.o⟩);clear bW a9 aC BR;go_wp2_with fail;refine(bp.o w2 B2.o [] 1 (bh.o 0) none 0 (λi f hf=>Mi)).ac ?_;rintro e w3 ⟨⟨E,D,O,rfl,aP,hO⟩,bB⟩;obtain⟨I3,E3,bD⟩:=AQ (aP.lower B2.o.size B2.o.size) hO (bQ.o.J bB);clear aP hO bB bQ B2;go_wp2_with fail
  go_loopw [63,14,15] (λiv ov sv wr=>∃(k:Nat)(fa:Option Addr)(fc:Nat)(sa:Option Addr)(I:Nat)(L:List E5)(E:Option Addr)(D:Nat)(O:List Eh),iv=I6 (k:Int)/\k<=d.length/\ov=.slice E O.length D/\sv=.slice sa L.length I/\L.length=k/\Je w rs g cp sg d k k stb fa fc sa I L wr/\Iw wr w.heap.size w.heap.size E D O/\O.map Prod.fst=Cs (Bb cp sg (d.take k)).1 0 rs) (λiv _ _ _=>d.length-(intOf iv).toNat)
  case atStart=>exact⟨0,none,0,none,0,[],E,D,O,rfl,yA _,rfl,rfl,rfl,bD.o,I3.o,E3.o⟩
  case round=>
   obtain⟨k,fa,fc,sa,I,L,E,D,O,rfl,cv,rfl,rfl,bU,b0,aP,hO⟩:=hrel;obtain⟨HLK,C,bZ,EO⟩:=BE bU b0 aP hO;clear bU b0 aP hO bD I3 E3;by_cases H:k<d.length
   .obtain⟨o,p⟩:=AJ H;have bw:=yd p;obtain⟨ob,op,cg,cC,cB,o0,o1,o2,o3,bV⟩:=cz.o k o p;subst cB;have B:=C.o.ar;have x0:=zab B o0;have x1:=zab B o1;have x2:=zab B o2;have x3:=zab B o3;have cI:=Aa (bV.J B);obtain⟨fs,aD⟩:∃fs,fs=(Bb cp sg (d.take k)).1:=⟨_,rfl⟩
    obtain⟨nx,G⟩:∃nx,nx=(Bb cp sg (d.take k)).2:=⟨_,rfl⟩
    have aX:VS fs nx cp sg:=by rw[aD,G];exact bh.o k
    have ai:=C.o.box;have aO:=C.o.cap;have R:=C.o.cu.at;rw[<-aD,<-G]at ai;rw[<-aD]at aO R;have cS:fs.length<=40:=by have:=aX.len;have:=aX.bc;omega
    have bL:∀f∈fs,Cq f/\AV f:=by rw[aD];exact cJ.o k
    obtain⟨bN,ar,z,aS,aR,HO⟩:=Hl (λ(u:World)(hb:Bw wr u)=>uh o (cA.o o bw) fa fc fs nx cp sg cg cC u (R.J hb) aO (cI.o.J hb) qd bL) ai aD G aX p;have z0:(0:Int)<=(k:Int):=qd;have z1:(k:Int)<(d.length:Int):=qd;have cV:=Aa B;clear bw o0 o1 o2 o3 bV B p aD G aX aO R bL ai;go_upto_region 15 with fail;refine Bt ?_;intro w5 bn b6;have aJ:=Aa bn;obtain⟨y0,y1,y2,y3⟩:=AO b6;have a7:=(bn.block _ (As ar.o)).j ar.o;obtain⟨s0,s1,s2,s3⟩:=AO a7;clear bn b6 x0 x1 x2 x3;go_upto_region 16 with(first|(go_at_call 51;refine(bN.o w5 aJ.o).ac ?_;rintro e w6 ⟨⟨ga,gc,rfl,bF,b4⟩,bu⟩;have bg:=Aa bF;have bl:=Aa bu;clear bF bu;dsimp only[C6.val])|fail);refine Bt ?_;intro w7 bd A;obtain⟨r,hr⟩:∃r,r=BF fs nx cp sg o:=⟨_,rfl⟩
    rw[<-hr]at A bg b4⊢;obtain⟨HR,bm,aU⟩:=AQ hr A (show Bw wr w7 from(aJ.o.aj bl.o).j (bd.ac (yi aJ.o.size bl.o.size)));obtain⟨cb,ax⟩:∃b,b=w6.heap.size:=⟨_,rfl⟩
    rw[<-ax]at A bm;(try rw[<-ax]);have c0:=AF (L:=[_,_,_,_,_,_]) A (j:=0) rfl;have c1:=AF (L:=[_,_,_,_,_,_]) A (j:=1) rfl;have c2:=AF (L:=[_,_,_,_,_,_]) A (j:=2) rfl;have c3:=AF (L:=[_,_,_,_,_,_]) A (j:=3) rfl;have c4:=AF (L:=[_,_,_,_,_,_]) A (j:=4) rfl;have ch:=Aa (show DD (λb=>w5.heap.size<=b) w7 ga r.fs from bg.o.kept λb _ hl=>bd.block b hl);have af:=(aU.o.block _ (As ar.o)).j ar.o;have a5:=Aa af;have aI:∀j,w7.frozen? ⟨stb,j,none⟩=false:=λj=>by simp[World.frozen?,af]
    have e0:=AF (L:=[_,_,_,_]) af (j:=0) rfl;have e1:=AF (L:=[_,_,_,_]) af (j:=1) rfl;have e2:=AF (L:=[_,_,_,_]) af (j:=2) rfl;have e3:=AF (L:=[_,_,_,_]) af (j:=3) rfl;have cE:=aI 0;have cO:=aI 1;have cN:=aI 2;have ci:=aI 3;have bI:stb≠cb:=λe=>by
     rw[e]at af;exact CB A af qh
    have cq:wr.heap.size<=w5.heap.size:=aJ.o.size;have cQ:stb<w5.heap.size:=yh (As ar.o) cq;obtain⟨RK,cW⟩:=Ak (PQ (cp:=cp) (sg:=sg) HO.o) ax;clear bd A hr s0 s1 s2 s3 y0 y1 y2 y3 bN bg bl aJ aI a7 af ax;go_upto_if 72 with fail
    go_cut [] (λwx=>∃aA aB,Je w rs g cp sg d k (k+1) stb aA aB sa I L wx/\Iw wx w.heap.size w.heap.size E D O/\wx.heap[cb]?=some (.cells #[.slice ga r.fs.length gc,I6 r.nx,I6 r.cp,.bool r.sg,I6 r.code,I6 r.tag] 87 (0,0)))
    case first=>
     by_cases hc:r.code=1
     .have cG:(r.code != 1)=false:=qY;have az:Bb cp sg (d.take (k+1))=Bb cp sg (d.take k):=by
       rw[RK.o,<-z.o,<-aS.o];unfold IG;rw[<-HR.o,if_neg qd,z.o,aS.o]
      have M:=Aa (show Je w rs g cp sg d k (k+1) stb fa fc sa I L w7 from by
       have h:=C.o.J aU.o;exact⟨by rw[az];exact h.box,by rw[az];exact h.cu,by rw[az];exact h.cap,h.st,h.eq,h.ar⟩)
      clear hc az;go_wp2_with fail;go_meet;exact⟨_,_,M.o,bZ.o.ar aU.o,bm.o⟩
     .have cG:(r.code != 1)=true:=qY;have ht:=Si o aR.o;rw[<-HR.o]at ht;obtain⟨t0,t1,bS,b5,t4⟩:=ht.resolve_left hc;have az:Bb cp sg (d.take (k+1))=(r.fs,r.nx):=by
       rw[RK.o,<-z.o,<-aS.o];unfold IG;rw[<-HR.o];split
       .rfl
       rename_i hn;rw[(t4 hn).1,(t4 hn).2]
      obtain⟨bf,ce,cH⟩:=AQ az bS b5;clear hc ht t0 t1 bS b5 t4 az;go_upto_region 18 with fail;refine R_ a5.o ?_;intro w8 br y;have bj:∀(k:Nat)cs t,(t=42∨t=45∨t=3)->w7.heap[k]?=some (.cells cs t (0,0))->w8.heap[k]?=w7.heap[k]?:=λk cs t aL H=>y.block k (λe=>by
       subst e;exact CB H a5.o (by rcases aL with rfl|rfl|rfl<;>decide))
      have M:=Aa (show Je w rs g cp sg d k (k+1) stb ga gc sa I L w8 from by
       have h:=C.o.J aU.o;refine⟨by rw[bf.o,<-ce.o,<-cH.o];exact br,?_,by rw[bf.o];exact b4,h.st.aQ λk cs t aL _ H=>bj k cs t aL H,h.eq,h.ar.j (y.J cM)⟩;rw[bf.o];refine DD.ac (ch.o.kept (w':=w8) λb hz _=>y.block b qd) λb hz=>⟨qd,λe=>?_⟩
       have:=(C.o.st.row.lt b e).2;omega)
      obtain⟨I8,cr⟩:=Ak ((bZ.o.ar aU.o).aQ λk cs t aL _ H=>bj k cs t (.inr aL) H) ((y.block _ bI.ai).j bm.o);clear br y bj;go_wp2_with fail;go_meet;exact⟨_,_,M.o,I8.o,cr.o⟩
    case rest=>
     obtain⟨aA,aB,aQ,hI,ax⟩:=hcut;obtain⟨M,bc⟩:=Ak aQ ax;obtain⟨m,aq⟩:∃fs,fs=(Bb cp sg (d.take (k+1))).1:=⟨_,rfl⟩
     obtain⟨ab,aN⟩:∃nx,nx=(Bb cp sg (d.take (k+1))).2:=⟨_,rfl⟩
     have aM:VS m ab cp sg:=by rw[aq,aN];exact bh.o (k+1)
     have ai:=aQ.box;have R:=aQ.cu.at;rw[<-aq,<-aN]at ai;rw[<-aq]at R;have bE:=Aa (bp.o wc aQ.ar m ab aM aA aB R);have g0:=AF (L:=[_,_,_,_]) ai (j:=0) rfl;obtain⟨II,bo,aE,a4⟩:=BE hI R aM aq;clear aQ hI ax aq aN aM ai R e0 e1 e2 e3 cE cO cN ci c0 c1 c2 c3 c4;go_wp2_with fail;refine bE.o.ac ?_;rintro e wd ⟨⟨na,nc,M2,rfl,bz,bJ⟩,aF⟩;obtain⟨T,I2,W,bK⟩:=BE (M.o.J aF) (bz.lower M.o.ar.size M.o.ar.size) bJ (II.o.ar aF);have aW:=(aF.block _ (As bc.o)).j bc.o;have bT:m.length<=40:=by have:=aE.o.len;have:=aE.o.bc;omega
     have cf:=Aa T.o.ar;have aH:w.heap.size<=wd.heap.size:=T.o.ar.size;have b9:=Aa (λ(u:World)(h:Bw wd u)=>show Ca 52 #[.slice na M2.length nc,.slice E O.length D] u (JT (FM (Cs m 0 rs) (Cs fs 0 rs)) u) by
      have U:=ld (M2.map Prod.fst) (O.map Prod.fst) na E nc D u (I2.o.ar h).at (bK.o.ar h).at (by rw[W.o];exact(aE.o.bq N.o).1) (by rw[EO.o,<-z.o];exact(aR.o.bq N.o).1) (by rw[W.o];exact(aE.o.bq N.o).2) (by rw[EO.o,<-z.o];exact(aR.o.bq N.o).2);rw[yp,yp]at U;rw[W.o,EO.o,<-z.o]at U;exact U)
     have cw:=Aa (λ(u:World)(h:Bw wd u)=>show Ca 52 #[.slice E O.length D,.slice na M2.length nc] u (JT (FM (Cs fs 0 rs) (Cs m 0 rs)) u) by
      have U:=ld (O.map Prod.fst) (M2.map Prod.fst) E na D nc u (bK.o.ar h).at (I2.o.ar h).at (by rw[EO.o,<-z.o];exact(aR.o.bq N.o).1) (by rw[W.o];exact(aE.o.bq N.o).1) (by rw[EO.o,<-z.o];exact(aR.o.bq N.o).2) (by rw[W.o];exact(aE.o.bq N.o).2);rw[yp,yp]at U;rw[W.o,EO.o,<-z.o]at U;exact U)
     obtain⟨Z,hZ⟩:∃Z,Z=JO rs g m:=⟨_,rfl⟩
     have bC:=Aa (λ(u:World)(h:Bw wd u)=>bX.o u (cf.o.aj h) m aA aB ((bo.o.J aF).J h) bT);rw[<-hZ]at bC;have HZ:=Aa hZ;have cn:=Aa (show∀(P Q:List Eh)(va vd:Value),P.map Prod.fst=FM (Cs m 0 rs) (Cs fs 0 rs)->Q.map Prod.fst=FM (Cs fs 0 rs) (Cs m 0 rs)->Ib rs g cp sg d (k+1)=Ib rs g cp sg d k++[DK ⟨r.code,r.tag,Z,va,vd,P,Q⟩] fromλP Q va vd hP hQ=>by
      rw[lI HO.o];congr 1;simp only[DK,Rf,hP,hQ,HZ.o];rw[<-z.o,<-aS.o,<-HR.o,a4.o,RK.o,<-z.o,<-aS.o])
     have g4:=AF (L:=[_,_,_,_,_,_]) aW (j:=4) rfl;have g5:=AF (L:=[_,_,_,_,_,_]) aW (j:=5) rfl;have g6:=zab aF g0;have bP:some cb≠(Value.slice sa L.length I).ownBlock:=λe=>by
      obtain⟨c2,bi⟩:=A8 T.o.st.row e.ai;exact CB bi aW qh
     have cD:some stb≠(Value.slice sa L.length I).ownBlock:=λe=>by
      obtain⟨c2,bi⟩:=A8 T.o.st.row e.ai;exact CB bi T.o.box qh
     have cU:L.length<=60:=by rw[HLK.o];omega
     clear bz bJ aW aF g0 bE HZ hZ II M bc bo bX;go_upto_region 19 with fail
     go_cut [15] (λsv wx=>∃(aZ:Option Addr)(aV:Nat)(L':List E5),sv=.slice aZ L'.length aV/\L'.length=k+1/\Je w rs g cp sg d (k+1) (k+1) stb aA aB aZ aV L' wx/\Iw wx w.heap.size w.heap.size na nc M2)
     case first=>
      have Y:Bw wd wd.drew:=Aj.drew;refine wp_region_noPanic ?_;refine wp_region_held_drew (S:=(λu=>At u cb 4 (I6 r.code)/\At u cb 5 (I6 r.tag)/\At u stb 0 (.slice aA m.length aB))) qf ?_ (λhHeld=>?_)
      ·(try dsimp only);exact⟨g4,g5,g6⟩
      refine sr 0 7 ?_;refine sr 8 10 ?_;refine sr 11 15 ?_;refine wpAnyH_ready (rs:=[7]) qf qe ?_;refine Yi (yj.j rfl) (λK n=>?_) Ys;go_simp
      go_at_call 52;refine(b9.o _ Y).ac ?_;rintro e _ ⟨⟨pa,pc,P,rfl,ay,bM⟩,s⟩;have ay:=ay.lower (yi aH Y.size) (yi aH Y.size);have cu:=Aa bM;clear bM;have Y:=Y.aj s;clear s
      (try go_wp2_with fail);refine n.o _ _ qM λhHeld=>?_;clear n K;(try simp only[pA,pZ,pS,pN]);refine wpAnyH_ready (rs:=[10]) qf qe ?_;refine Yi (yj.j rfl) (λK n=>?_) Ys;go_simp
      go_at_call 52;refine(cw.o _ Y).ac ?_;rintro e _ ⟨⟨qa,qc,Q,rfl,aK,b8⟩,s⟩;have aK:=aK.lower (yi aH Y.size) (yi aH Y.size);have cL:=Aa b8;clear b8;have Y:=Y.aj s;have ay:=ay.ar s;clear s
      (try go_wp2_with fail);refine n.o _ _ qM λhHeld=>?_;clear n K;(try simp only[pA,pZ,pS,pN]);refine wpAnyH_ready (rs:=[15]) qf qe ?_;refine Yi (yj.j rfl) (λK n=>?_) Ys;go_simp
      go_at_call 53;refine(bC.o _ Y).an λ_ s=>?_;have Y:=Y.aj s;have ay:=ay.ar s;have aK:=aK.ar s;clear s
      (try go_wp2_with fail);refine n.o _ _ qM λhHeld=>?_;clear n K;(try simp only[pA,pZ,pS,pN]);refine sr 16 17 ?_;refine wpAnyH_ready (rs:=[17]) qf qe ?_;refine Yi (yj.j rfl) (λK n=>?_) Ys;go_simp;refine n.o _ _ (by(try dsimp only);exact⟨zab (Y.alloc Y.size _) g4,zab (Y.alloc Y.size _) g5,zab (Y.alloc Y.size _) g6⟩) λhHeld=>?_;clear n K;(try simp only[pA,pZ,pS,pN]);refine wpAnyH_ready (rs:=[18]) qf qe ?_;refine Yi (yj.j rfl) (λK n=>?_) Ys;(refine IY qi (.tmp 79) (.tmp 96) 34 qi w.heap.size 42 _ 5 72 underlying34 fP qi qd _ L.length _ qi (Bg T.o.st.row (Y.alloc Y.size _)) (some ⟨_,0,none⟩) 1 1 qi (DJ ⟨r.code,r.tag,Z,.slice pa P.length pc,.slice qa Q.length qc,P,Q⟩) qi (λe=>qp) (Et _ _ _ _ qH) qT qm qd (yi aH (Y.alloc Y.size _).size) ?_;intro a3 c3 w3 bO aG b7);refine n.o _ _ (by(try dsimp only);exact⟨aG.o.cell (zab (Y.alloc Y.size _) g4) bP,aG.o.cell (zab (Y.alloc Y.size _) g5) bP,aG.o.cell (zab (Y.alloc Y.size _) g6) cD⟩) λhHeld=>?_;clear n K;(try simp only[pA,pZ,pS,pN]);refine sr 19 20 ?_;refine wpAnyH_done qf ?_ _;refine Yf ?_;obtain⟨FG,I4⟩:=Ak (T.o.grow (Y.alloc Y.size _) (x:=⟨r.code,r.tag,Z,.slice pa P.length pc,.slice qa Q.length qc,P,Q⟩) ⟨⟨pa,pc,rfl,ay.ar Af⟩,⟨qa,qc,rfl,aK.ar Af⟩⟩ bO.o aG.o b7.o (cn.o P Q _ _ cu.o cL.o)) ((I2.o.ar (Y.alloc Y.size _)).cr (GS.az (Bg T.o.st.row (Y.alloc Y.size _)) aG.o));clear bO aG b7;go_wp2_with fail
      go_meet;exact⟨a3,c3,_,qe,by simp[HLK.o],FG.o,I4.o⟩
     case rest=>
      obtain⟨aZ,aV,L',rfl,bq,a8,bA⟩:=hcut;obtain⟨cj,cd,I'⟩:=AQ bq a8 bA;clear bq a8 bA g4 g5 g6;go_wp2_with fail;go_roundw
      case rel=>exact⟨k+1,aA,aB,aZ,aV,L',na,nc,M2,ql,qd,rfl,rfl,cj.o,cd.o,I'.o,by rw[W.o,a4.o]⟩
      case measure=>(simp[intOf];omega)
   obtain rfl:k=d.length:=qd;have hy:¬(d.length:Int)<(d.length:Int):=qd;go_wp2_with fail;go_ret;exact⟨sa,I,L,rfl,C.o.st,by rw[C.o.eq,HF.o],C.o.ar⟩
def Hq(w:World)(a:Option Addr)(L:List Iy):Prop:=
 ∀(i:Nat)(x:Iy),L[i]?=some x->∃b o pa pc qa qc,a=some ⟨b,o,none⟩/\w.cell? ⟨b,o+i*5,none⟩=some (.int .i64 x.code)/\w.cell? ⟨b,o+i*5+1,none⟩=some (.int .i64 x.tag)/\w.cell? ⟨b,o+i*5+2,none⟩=some (.slice pa x.br.length pc)/\w.cell? ⟨b,o+i*5+3,none⟩=some (.slice qa x.aY.length qc)/\w.cell? ⟨b,o+i*5+4,none⟩=some (.int .i64 x.size)/\Ha w pa x.br/\Ha w qa x.aY
def Hq.J{w w' a L}(h:Hq w a L)(c:Bw w w'):Hq w' a L:=λi x g=>by
 obtain⟨b,o,n,d,q,m,e,O,r,j,f,k,l,p⟩:=h i x g;exact⟨b,o,n,d,q,m,e,zab c O,zab c r,zab c j,zab c f,zab c k,l.J c,p.J c⟩
def SM.at{w b a c L}(h:SM w b a c L):Hq w a (L.map DK):=by
 intro i y l;rw[yx]at l;obtain⟨x,f,rfl⟩:=Ya.1 l;have key:=λj u(hj:(DJ x)[j]?=some u)=>CC h.row (Ig (cells:=DJ) (m:=5) (λ_=>rfl) L i x j u f hj);obtain⟨k,rfl,_,s,_⟩:=key 0 _ rfl;obtain⟨_,d,_,z,_⟩:=key 1 _ rfl;cases d;obtain⟨_,d,_,g,_⟩:=key 2 _ rfl;cases d;obtain⟨_,d,_,e,_⟩:=key 3 _ rfl;cases d;obtain⟨_,d,_,p,_⟩:=key 4 _ rfl;cases d;obtain⟨⟨t,o,O,q⟩,⟨v,r,Y,n⟩⟩:=h.each x (yd f);rw[O]at g;rw[Y]at e;exact⟨k,0,t,o,v,r,rfl,by simpa[DK] using s,by simpa[DK] using z,by simpa[DK] using g,by simpa[DK] using e,by simpa[DK] using p,q.at,n.at⟩
def SO.sm{w b a c L}(h:SO w b a c L):SM w b a c L:=⟨h.row,h.each⟩
def TL(x:Iy):Prop:=Mu x.br/\Mu x.aY
def znr(x m p n k A s E C w)(z:Ha w m x.br)(G:Ha w p x.br)(q:Ha w n x.aY)(M:Ha w k x.aY)(g:TL x) :
  Ca 70 #[.agg #[I6 x.code,I6 x.tag,.slice m x.br.length A,.slice n x.aY.length E,I6 x.size],.agg #[I6 x.code,I6 x.tag,.slice p x.br.length s,.slice k x.aY.length C,I6 x.size]] w λe w'=>
   e=.returned (.bool true)/\Bw w w':=by
 obtain⟨H,r⟩:=Ak (λw'(h:Bw w w')=>ll m p A s x.br w' (z.J h) (G.J h) (by have:=g.1.1;omega) (λy l=>by have:=g.1.2 y l;omega)) (λw'(h:Bw w w')=>ll n k E C x.aY w' (q.J h) (M.J h) (by have:=g.2.1;omega) (λy l=>by have:=g.2.2 y l;omega));clear z G q M;go_enter func70,ntmps70;go_upto_region 1 with fail;refine Bo ?_;intro w1 v c Y;obtain⟨b1,f⟩:∃b,b=w.heap.size:=⟨_,rfl⟩
 obtain⟨b2,O⟩:∃b,b=b1+1:=⟨_,rfl⟩
 rw[<-f]at c;rw[<-f]at Y;rw[<-O]at Y;(try rw[<-f]);(try rw[<-O]);obtain⟨B,D,K⟩:=AQ c Y v;have c0:=AF (L:=[_,_,_,_,_]) c (j:=0) rfl;have Z:=AF (L:=[_,_,_,_,_]) c (j:=1) rfl;have N:=AF (L:=[_,_,_,_,_]) c (j:=2) rfl;have d0:=AF (L:=[_,_,_,_,_]) Y (j:=0) rfl;have T:=AF (L:=[_,_,_,_,_]) Y (j:=1) rfl;have W:=AF (L:=[_,_,_,_,_]) Y (j:=2) rfl;clear v c Y f O;go_wp2_with fail;refine(H.o w1 K.o).an λw2 O=>?_;have u:=Aa (K.o.aj O);have d:=(O.block _ (As B.o)).j B.o;have a:=(O.block _ (As D.o)).j D.o;obtain⟨t,I⟩:=Ak d a;have R:=AF (L:=[_,_,_,_,_]) d (j:=3) rfl;have d3:=AF (L:=[_,_,_,_,_]) a (j:=3) rfl;clear c0 Z N d0 T W O d a H;go_wp2_with fail;refine(r.o w2 u.o).an λw3 i=>?_;have U:=Aa (u.o.aj i);have d:=(i.block _ (As t.o)).j t.o;have a:=(i.block _ (As I.o)).j I.o;have c4:=AF (L:=[_,_,_,_,_]) d (j:=4) rfl;have d4:=AF (L:=[_,_,_,_,_]) a (j:=4) rfl;clear R d3 i d a r;go_wp2_with fail;go_ret;exact⟨rfl,U.o⟩
def zlc(a n c H xs w)(hv:Hq w a xs)(A:Hq w n xs)(hl:xs.length<=1048576)(z:∀x∈xs,TL x) :
  Ca 25 #[.slice a xs.length c,.slice n xs.length H] w λe w'=>
   e=.returned (.bool true)/\Bw w w':=by
 go_enter func25,ntmps25;go_wp2
 go_loopw [5] (λi wr=>∃(k:Nat),k<=xs.length/\i=I6 k/\Bw w wr) (mz xs.length)
 case atStart=>exact⟨0,qd,rfl,Aj⟩
 case round=>
  obtain⟨k,R,rfl,hb⟩:=hrel;by_cases I:k<xs.length
  .obtain⟨x,O⟩:=AJ I;obtain⟨b,o,s,y,t,E,rfl,D,U,c2,M,c4,m,l⟩:=(hv.J hb) k x O;obtain⟨W,o',u,G,r,C,rfl,B,N,T,d3,Z,Y,g⟩:=(A.J hb) k x O;have z0:(0:Int)<=(k:Int):=qd;have z1:(k:Int)<(xs.length:Int):=qd;have f:=z x (yd O);have v:=Aa (λw'(h:Bw wr w')=>znr x s u t r y G E C w' (m.J h) (Y.J h) (l.J h) (g.J h) f);have p:Bw wr wr.drew:=Aj.drew;clear m l Y g f O;go_wp2;have K:=ES D;have L:=ES B
   go_region_held3 (Kc wr) ((first | exact Kc.dr | exact Kc.dr.nx d qe))
    (first|(go_at_call 70;refine(v.o _ p).an λw' d=>?_;have q:Bw wr w':=p.j d))
   go_wp2;go_roundw
   case rel=>exact⟨k+1,qd,ql,hb.aj q⟩
   case measure=>(simp;omega)
  exact J4
def PG{α β:Type}(f:α->List β){L:List α}{j x y}(h:L[j]?=some x)(e:f y=f x):(L.set j y).flatMap f=L.flatMap f:=by
 rw[List.flatMap_def,List.flatMap_def,W6,e,Vc (by rw[yx,h];rfl)]
def zoY{L:List E5}{j x y i v}(h:L[j]?=some x)(a:i<5)(e:DJ y=(DJ x).set i v):(L.flatMap DJ).set (j*5+i) v=(L.set j y).flatMap DJ:=by
 have key:∀(l:List E5)(j:Nat),l[j]?=some x->(l.flatMap DJ).set (j*5+i) v=(l.set j y).flatMap DJ:=by
  intro l
  induction l with
  |nil=>intro j h;simp at h
  |cons z r O=>
   intro j h;rcases j with _|j
   .simp at h;subst h;rw[yE,yI,yE,List.set_append_left _ _ (by simp[DJ];omega),e];simp
   rw[yw]at h;rw[yE,yG,yE,KC _ _ (by simp[DJ];omega),show(j+1)*5+i-(DJ z).length=j*5+i by simp[DJ];omega,O j h]
 exact key L j h
def NQ(x:E5)(g:Nat):Prop:=Fj x.va x.P g∨Fj x.vd x.Q g
def jz{u v}(h:AL u v):AL v u:=λg b a=>h g a b
def SO.two{w b a c L}(h:SO w b a c L){i j:Nat}{x y}(l:L[i]?=some y)(hj:L[j]?=some x)(d:i≠j):(∀u∈[y.va,y.vd],∀v∈[x.va,x.vd],AL u v)/\∀p∈y.P++y.Q,∀q∈x.P++x.Q,AL p.2 q.2:=by
 have f:=(Wi.1 h.rows).2;have e:=(Wi.1 h.al).2;obtain⟨O,rfl⟩:=yf.1 l;obtain⟨Y,rfl⟩:=yf.1 hj;rcases Nat.lt_or_gt_of_ne d with hl|hl
 .exact⟨YT.1 f i j O Y hl,YT.1 e i j O Y hl⟩
 exact⟨λu hu v hv=>jz (YT.1 f j i Y O hl v hv u hu),λp g q k=>jz (YT.1 e j i Y O hl q k p g)⟩
def FE.ty{w b x}(h:FE w b x){g}:(x.va.ownBlock=some g∨x.vd.ownBlock=some g->∃c,w.heap[g]?=some (.cells c 45 (0,0)))/\((∃y∈x.P++x.Q,y.2.ownBlock=some g)->∃c,w.heap[g]?=some (.cells c 3 (0,0))):=by
 obtain⟨⟨a,c,e,j⟩,⟨k,l,O,i⟩⟩:=h;constructor
 .rintro(d|d)
  .rw[e]at d;exact A8 j.row d
  rw[O]at d;exact A8 i.row d
 rintro⟨y,f,d⟩;rcases yr.1 f with f|f
 .exact A8 (j.all y f).ot d
 exact A8 (i.all y f).ot d
def NQ.cases{x g}(h:NQ x g):(x.va.ownBlock=some g∨x.vd.ownBlock=some g)∨∃y∈x.P++x.Q,y.2.ownBlock=some g:=by
 rcases h with(h|⟨y,a,h⟩)|(h|⟨y,a,h⟩)
 .exact .inl (.inl h)
 .exact .inr ⟨y,Wb _ a,h⟩
 .exact .inl (.inr h)
 exact .inr ⟨y,YA _ a,h⟩
def OV(h:P:=by exact CB k1 k2 (by decide)):=h
def SO.co{w b a c L}(h:SO w b a c L){i j:Nat}{x y}(m:L[i]?=some y)(hj:L[j]?=some x)(k:i≠j){g}(e:NQ y g)(d:NQ x g):False:=by
 obtain⟨f,t2⟩:=h.two m hj k;have Y:=(h.each y (yd m)).ty (g:=g);have O:=(h.each x (yd hj)).ty (g:=g);rcases e.cases with e|⟨p,n,e⟩<;>rcases d.cases with d|⟨q,l,d⟩
 .rcases e with e|e<;>rcases d with d|d
  .exact f y.va qe x.va qe g e d
  .exact f y.va qe x.vd qe g e d
  .exact f y.vd qe x.va qe g e d
  exact f y.vd qe x.vd qe g e d
 .obtain⟨_,k1⟩:=Y.1 e;obtain⟨_,k2⟩:=O.2 ⟨q,l,d⟩;exact OV
 .obtain⟨_,k1⟩:=Y.2 ⟨p,n,e⟩;obtain⟨_,k2⟩:=O.1 d;exact OV
 exact t2 p n q l g e d
def FE.kept{w w' b x}(h:FE w b x)(f:∀g,NQ x g->w'.heap[g]?=w.heap[g]?):FE w' b x:=by
 obtain⟨⟨a,c,e,l⟩,⟨k,j,O,i⟩⟩:=h;exact⟨⟨a,c,e,l.kept λg d=>f g (.inl (by rw[e];exact d))⟩,⟨k,j,O,i.kept λg d=>f g (.inr (by rw[O];exact d))⟩⟩
def FE.lt{w b x}(h:FE w b x){g}(d:NQ x g):b<=g/\g<w.heap.size:=by
 obtain⟨⟨a,c,e,i⟩,⟨j,k,O,f⟩⟩:=h;rcases d with d|d
 .rw[e]at d;exact i.range d
 rw[O]at d;exact f.range d
def SO.bm{w w' b a c L j x x'}(h:SO w b a c L)(hj:L[j]?=some x)(l:DJ x'=DJ x)(r:x'.P.map Prod.snd=x.P.map Prod.snd)(q:x'.Q.map Prod.snd=x.Q.map Prod.snd)(m:E7 (NQ x) w w')(o:FE w' b x'):SO w' b a c (L.set j x'):=by
 have s:[x'.va,x'.vd]=[x.va,x.vd]:=by
  simp only[DJ,Yh]at l;rw[l.2.2.1,l.2.2.2.1]
 have Y:=h.each x (yd hj);refine⟨?_,λy u=>?_,?_,?_⟩
 .rw[Kl,PG DJ hj l];refine BZ h.row λg f=>m.block g (h.row.lt g f).2 λd=>?_;obtain⟨_,k1⟩:=A8 h.row f;rcases d.cases with d|d
  .obtain⟨_,k2⟩:=Y.ty.1 d;exact OV
  obtain⟨_,k2⟩:=Y.ty.2 d;exact OV
 .obtain⟨i,k⟩:=YD u;by_cases O:i=j
  .subst O;rw[Yl (yf.1 hj).1]at k;cases k;exact o
  rw[YS (K7 O)]at k;have n:=h.each y (yd k);exact n.kept λg f=>m.block g (n.lt f).2 λd=>h.co k hj O f d
 .rw[PG _ hj s];exact h.rows
 have e:(L.set j x').flatMap (λy=>(y.P++y.Q).map Prod.snd)=L.flatMap (λy=>(y.P++y.Q).map Prod.snd):=PG _ hj (by rw[yJ,yJ,r,q]);have t:((L.flatMap λy=>y.P++y.Q).map Prod.snd).Pairwise AL:=Y1.2 h.al;have p:(((L.set j x').flatMap λy=>y.P++y.Q).map Prod.snd).Pairwise AL:=by
  rw[Kb,e,<-Kb];exact t
 exact Y1.1 p
def SO.num{w b g c L j i x x' v}(h:SO w b (some ⟨g,0,none⟩) c L)(hj:L[j]?=some x)(u:i<5)(e:DJ x'=(DJ x).set i v)(l:x'.va=x.va)(o:x'.vd=x.vd)(m:x'.P=x.P)(n:x'.Q=x.Q):SO (w.setCell ⟨g,j*5+i,none⟩ v) b (some ⟨g,0,none⟩) c (L.set j x'):=by
 obtain⟨cc,r⟩:=A8 h.row (k:=g) rfl;refine⟨?_,λy f=>?_,by rw[PG (λx:E5=>[x.va,x.vd]) hj (by rw[l,o])];exact h.rows,by rw[PG (λx:E5=>x.P++x.Q) hj (by rw[m,n])];exact h.al⟩
 .have q:=(h.row.stored (j*5+i) v).1;rw[zoY hj u e]at q;simpa using q
 have O:FE w b y:=by
  rcases List.mem_or_eq_of_mem_set f with f|rfl
  .exact h.each y f
  have p:=h.each _ (yd hj);exact⟨by rw[l,m];exact p.a,by rw[o,n];exact p.d⟩
 exact O.aQ λk cs t ht _ s=>Yb _ _ _ _ λ(e:k=g)=>by
  subst e;exact CB s r qs
abbrev Sh:=List Nat × List Nat
def Lq(k:Int)(s:Sh):Int:=A5 (A5 (k+1+1) s.1) s.2+1
def BQ(k:Int):List Sh->Int
 |[]=>k
 |s::r=>BQ (Lq k s) r
def Hk(k:Int)(s:Sh):Iy:=⟨k,k+1,Gk (k+1+1) s.1,Gk (A5 (k+1+1) s.1) s.2,A5 (A5 (k+1+1) s.1) s.2⟩
def Gu(k:Int):List Sh->List Iy
 |[]=>[]
 |s::r=>Hk k s::Gu (Lq k s) r
def Hn(s:Sh):Prop:=(s.1.length<=1024000/\∀n∈s.1,n<=6)/\s.2.length<=1024000/\∀n∈s.2,n<=6
def je:∀(l:List Sh)(k:Int),(Gu k l).length=l.length
 |[],_=>rfl
 |s::r,k=>by simp[Gu,je r]
def Vz:∀(l:List Sh)(k:Int)(s:Sh),BQ k (l++[s])=Lq (BQ k l) s
 |[],_,_=>rfl
 |m::r,k,s=>by simp only[Ye,BQ];exact Vz r _ s
def kx:∀(l:List Sh)(k:Int)(s:Sh),Gu k (l++[s])=Gu k l++[Hk (BQ k l) s]
 |[],_,_=>rfl
 |m::r,k,s=>by simp only[Ye,Gu,BQ];rw[kx r _ s]
def Ua{k s}(h:Hn s):k+2<=A5 (k+1+1) s.1/\A5 (k+1+1) s.1<=A5 (A5 (k+1+1) s.1) s.2/\A5 (A5 (k+1+1) s.1) s.2<=k+14336002/\A5 (k+1+1) s.1<=k+7168002:=by
 have d:=RL (N:=6) s.1 (k+1+1) h.1.2;have a:=RL (N:=6) s.2 (A5 (k+1+1) s.1) h.2.2;have c:=h.1.1;have b:=h.2.1;omega
def Ur:∀(l:List Sh)(k:Int),(∀s∈l,Hn s)->k<=BQ k l/\BQ k l<=k+l.length*14336003
 |[],k,_=>by simp[BQ]
 |s::r,k,h=>by
  have c:=Ua (k:=k) (h s qe)
  have b:=Ur r (Lq k s) (λm a=>h m (by simp[a]))
  have e:Lq k s=A5 (A5 (k+1+1) s.1) s.2+1:=rfl
  simp only[BQ,yH]
  omega
def jV{l:List Sh}{k}(h:∀s∈l,Hn s)(hl:l.length<=60)(j):k<=BQ k (l.take j)/\BQ k (l.take j)<=k+900000000:=by
 obtain⟨d,c⟩:=Ur (l.take j) k (λs a=>h s (Wa a));have b:(l.take j).length<=60:=by rw[Yo];omega
 omega
def vM{l k j s}(h:l[j]?=some s):(Gu k l)[j]?=some (Hk (BQ k (l.take j)) s):=by
 have key:∀(l:List Sh)(k:Int)(j:Nat),l[j]?=some s->(Gu k l)[j]?=some (Hk (BQ k (l.take j)) s):=by
  intro l
  induction l with
  |nil=>intro k j h;simp at h
  |cons m r O=>
   intro k j h;rcases j with _|j
   .simp at h;subst h;rfl
   simp only[Gu,yw,YG,BQ];exact O _ _ qq
 exact key l k j h
def zjz(l a c w)(hv:Hq w a (Gu 1 l))(hl:l.length<=60)(C:∀s∈l,Hn s) :
  Ca 33 #[.slice a l.length c,I6 1] w λe w'=>e=.returned (I6 (BQ 1 l))/\Bw w w':=by
 obtain⟨HE,HV,W⟩:=AQ (λj=>jV (k:=1) C hl j) hv C;clear hv C;go_enter func33,ntmps33;go_wp2
 go_loopw [1,5] (λZ i wr=>∃(j:Nat),j<=l.length/\i=I6 j/\Z=I6 (BQ 1 (l.take j))/\Bw w wr) (λ_ i _=>l.length-(intOf i).toNat)
 case atStart=>exact⟨0,qd,rfl,rfl,Aj⟩
 case round=>
  obtain⟨j,hj,rfl,rfl,U⟩:=hrel;have p:=Aa U;clear U;by_cases ak:j<l.length
  .obtain⟨s,q⟩:=AJ ak;have O:=W.o _ (yd q);obtain⟨b,o,pa,pc,qa,qc,rfl,E,A,H,g,d,n,f⟩:=(HV.o.J p.o) j _ (vM q);have Y:=Aa (show Lq (BQ 1 (l.take j)) s=BQ 1 (l.take (j+1)) by rw[OG q,Vz]);obtain⟨K,N⟩:∃z:Int,z=BQ 1 (l.take j):=⟨_,rfl⟩
   have L:=HE.o j;rw[<-N]at L E A H g d n f Y⊢;obtain⟨R,t,B,I⟩:=Ua (k:=K) O;simp only[Hk,Sw]at E A H g d n f;unfold Lq at Y;obtain⟨u,D⟩:∃z:Int,z=A5 (K+1+1) s.1:=⟨_,rfl⟩
   rw[<-D]at R t B I d f Y;obtain⟨y,v⟩:∃z:Int,z=A5 u s.2:=⟨_,rfl⟩
   rw[<-v]at t B d Y;have am:IntKind.i64.wrap (K+1)=K+1:=by rw[yS];omega
   have aq:IntKind.i64.wrap (K+1+1)=K+1+1:=by rw[yS];omega
   have ao:IntKind.i64.wrap (y+1)=y+1:=by rw[yS];omega
   obtain⟨x,G⟩:=Ak (mA (K+1+1) qd qd s.1 pa pc wr n (by have:=O.1.1;omega) O.1.2) (λw'(h:Bw wr w')=>mA u qd qd s.2 qa qc w' (f.J h) (by have:=O.2.1;omega) O.2.2);rw[<-D]at x;rw[<-v]at G;have n1:¬u<0:=qd;have n2:¬y<0:=qd;have z0:(0:Int)<=(j:Int):=qd;have z1:(j:Int)<(l.length:Int):=qd;clear n f N q D v O R t B I L;go_wp2_with fail;refine x.o.an λw1 m=>?_;have d3:=zab m g;have M:=zab m d;have T:=Aa m;clear m x E A H g d;go_wp2_with fail;refine(G.o w1 T.o).an λw2 r=>?_;have d:=zab r M;have B2:=Aa (p.o.j ((T.o.aj r).ac p.o.size));clear r G d3 M;go_wp2_with fail;rw[Y.o];go_roundw
   case rel=>exact⟨j+1,qd,ql,rfl,B2.o⟩
   case measure=>simp[intOf];omega
  have HQ:=Aa (show l.take j=l from yu qd);rw[HQ.o];go_wp2;go_ret;exact⟨rfl,p.o⟩
def J6(x:E5):Sh:=(Hv (x.P.map Prod.fst),Hv (x.Q.map Prod.fst))
def SO.get{w b a c L}(h:SO w b a c L){i x}(g:L[i]?=some x) :
  ∃k,a=some ⟨k,0,none⟩/\b<=k/\k<w.heap.size/\At w k (i*5) (I6 x.code)/\At w k (i*5+1) (I6 x.tag)/\At w k (i*5+2) x.va/\At w k (i*5+3) x.vd/\At w k (i*5+4) (I6 x.size)/\∀j,w.frozen? ⟨k,j,none⟩=false:=by
 have key:=λj u(hj:(DJ x)[j]?=some u)=>CC h.row (Ig (cells:=DJ) (m:=5) (λ_=>rfl) L i x j u g hj);obtain⟨k,rfl,o,O,_⟩:=key 0 _ rfl;obtain⟨_,d,_,p,_⟩:=key 1 _ rfl;cases d;obtain⟨_,d,_,l,_⟩:=key 2 _ rfl;cases d;obtain⟨_,d,_,f,_⟩:=key 3 _ rfl;cases d;obtain⟨_,d,_,n,_⟩:=key 4 _ rfl;cases d;obtain⟨cc,e⟩:=A8 h.row (k:=k) rfl;exact⟨k,rfl,o,As e,O,p,l,f,n,λj=>by simp[World.frozen?,e]⟩
def SO.own{w b a c L}(h:SO w b a c L){x}(f:x∈L){g}(e:Fj x.va x.P g)(d:Fj x.vd x.Q g):False:=by
 have r1:=(Wi.1 h.rows).1 x f;have r2:=(Wi.1 h.al).1 x f;have ty:=(h.each x f).ty (g:=g);have Y:AL x.va x.vd:=by simpa using r1
 have O:=(Yy.1 r2).2.2;rcases e with e|⟨p,m,e⟩<;>rcases d with d|⟨q,k,d⟩
 .exact Y g e d
 .obtain⟨_,k1⟩:=ty.1 (.inl e);obtain⟨_,k2⟩:=ty.2 ⟨q,YA _ k,d⟩;exact OV
 .obtain⟨_,k1⟩:=ty.2 ⟨p,Wb _ m,e⟩;obtain⟨_,k2⟩:=ty.1 (.inr d);exact OV
 exact O p m q k g e d
def SO.pw{w b a c L}(h:SO w b a c L){x}(d:x∈L):(x.P.Pairwise λy z=>AL y.2 z.2)/\x.Q.Pairwise λy z=>AL y.2 z.2:=by
 have r2:=(Wi.1 h.al).1 x d;exact⟨(Yy.1 r2).1,(Yy.1 r2).2.1⟩
def gK{M N:List Eh}(h:N.map Prod.snd=M.map Prod.snd):N.length=M.length:=by
 have:=congrArg List.length h;simpa using this
def SO.br{w w' b a c L j x k f N}(h:SO w b a c L)(hj:L[j]?=some x)(e:x.va=.slice k x.P.length f)(m:N.map Prod.snd=x.P.map Prod.snd)(q:Iw w' b b k f N)(l:E7 (Fj (.slice k x.P.length f) x.P) w w'):SO w' b a c (L.set j { x with P:=N }):=by
 have O:=yd hj;rw[<-e]at l;refine h.bm hj rfl m rfl (l.ac λg i=>.inl i) ⟨⟨k,f,by rw[gK m];exact e,q⟩,?_⟩;obtain⟨p,r,Y,n⟩:=(h.each x O).d;exact⟨p,r,Y,n.kept λg i=>l.block g (n.range i).2 λo=>h.own O o (by rw[Y];exact i)⟩
def SO.aY{w w' b a c L j x i f N}(h:SO w b a c L)(hj:L[j]?=some x)(e:x.vd=.slice i x.Q.length f)(l:N.map Prod.snd=x.Q.map Prod.snd)(p:Iw w' b b i f N)(k:E7 (Fj (.slice i x.Q.length f) x.Q) w w'):SO w' b a c (L.set j { x with Q:=N }):=by
 have O:=yd hj;rw[<-e]at k;refine h.bm hj rfl rfl l (k.ac λg d=>.inr d) ⟨?_,⟨i,f,by rw[gK l];exact e,p⟩⟩;obtain⟨o,q,Y,m⟩:=(h.each x O).a;exact⟨o,q,Y,m.kept λg d=>k.block g (m.range d).2 λn=>h.own O (by rw[Y];exact d) n⟩
def zkr(L a c base w)(h:SO w base a c L)(hl:L.length<=60)(hs:∀s∈L.map J6,Hn s)(aZ:base<=w.heap.size) :
  Ca 32 #[.slice a L.length c,I6 1] w λe w'=>e=.returned (I6 (BQ 1 (L.map J6)))/\Hq w' a (Gu 1 (L.map J6))/\Below base w w':=by
 obtain⟨l,M⟩:∃l,l=L.map J6:=⟨_,rfl⟩
 rw[<-M]at hs⊢;have aT:l.length=L.length:=by rw[M];simp
 obtain⟨aA,HE,H0,bh,HS⟩:=DU aT (λj=>jV (k:=1) hs qd j) h M hs;clear h M aT hs;go_enter func32,ntmps32;go_wp2
 go_loopw [1,5] (λkv i wr=>∃(j:Nat)(N:List E5),j<=L.length/\i=I6 j/\kv=I6 (BQ 1 (l.take j))/\N.length=L.length/\N.map DK=Gu 1 (l.take j)++(L.map DK).drop j/\SO wr base a c N/\Below base w wr) (λ_ i _=>L.length-(intOf i).toNat)
 case atStart=>exact⟨0,L,qd,rfl,rfl,rfl,by simp[Gu],H0.o,Aj⟩
 case round=>
  obtain⟨j,N,hj,rfl,rfl,a8,aM,aJ,hb⟩:=hrel;obtain⟨av,aG,aq,HB⟩:=BE a8 aM aJ hb;clear a8 aM aJ hb;by_cases ax:j<L.length
  .obtain⟨x,E⟩:∃x,N[j]?=some x:=⟨N[j]'(by rw[av.o];exact ax),qe⟩
   obtain⟨s,H⟩:∃s,l[j]?=some s:=⟨l[j]'(by rw[aA.o];exact ax),qe⟩
   obtain⟨y,hy⟩:∃y,L[j]?=some y:=⟨L[j],qe⟩
   have B:(Gu 1 (l.take j)).length=j:=by rw[je,Yo,aA.o];omega
   have ay:(L.map DK)[j]?=some (DK y):=by rw[yx,hy];rfl
   have aB:DK x=DK y:=by
    have f:(N.map DK)[j]?=some (DK x):=by rw[yx,E];rfl
    rw[aG.o,yF qd,B,WA]at f;simp only[W7,YJ]at f;rw[ay]at f;injection f with f;exact f.ai
   have aU:s=J6 x:=by
    have f:=H;rw[bh.o,yx,hy]at f;injection f with f;rw[<-f];have e2:=congrArg Iy.br aB;have e3:=congrArg Iy.aY aB;simp only[DK]at e2 e3;unfold J6;rw[e2,e3]
   have az:=HS.o _ (yd H);obtain⟨g,rfl,bg,bi,c0,c1,c2,U,c4,q⟩:=aq.o.get E;have hK:=HE.o j;have Y:=Aa (show Lq (BQ 1 (l.take j)) s=BQ 1 (l.take (j+1)) by rw[OG H,Vz]);have aO:=Aa (show∀K,K=BQ 1 (l.take j)->∀x':E5,DK x'=Hk K s->(N.set j x').map DK=Gu 1 (l.take (j+1))++(L.map DK).drop (j+1) fromλK hK x' e=>by
    rw[W6,aG.o,Ck ay,iY B,OG H,kx,e,hK])
   obtain⟨K,eK⟩:∃z:Int,z=BQ 1 (l.take j):=⟨_,rfl⟩
   have aN:=Aa (aO.o K eK);rw[<-eK]at hK Y⊢;obtain⟨b1,b2,b3,b4⟩:=Ua (k:=K) az;unfold Lq at Y;obtain⟨K1,aF⟩:∃z:Int,z=A5 (K+1+1) s.1:=⟨_,rfl⟩
   rw[<-aF]at b1 b2 b3 b4 Y;obtain⟨r,aE⟩:∃z:Int,z=A5 K1 s.2:=⟨_,rfl⟩
   rw[<-aE]at b2 b3 Y;have bp:IntKind.i64.wrap (K+1)=K+1:=by rw[yS];omega
   have bn:IntKind.i64.wrap (K+1+1)=K+1+1:=by rw[yS];omega
   have bm:IntKind.i64.wrap (r+1)=r+1:=by rw[yS];omega
   have z0:(0:Int)<=(j:Int):=qd;have z1:(j:Int)<(L.length:Int):=qd;have f0:=q (j*5);have O:j<N.length:=by rw[av.o];exact ax
   obtain⟨HX,S1⟩:=Ak E (show SO (wr.setCell ⟨g,j*5,none⟩ (I6 K)) base (some ⟨g,0,none⟩) c (N.set j { x with code:=K }) from aq.o.num (i:=0) E qd rfl rfl rfl rfl rfl);have MS:∀(u:World)(o:Nat)(v:Value),Below base w u->g<u.heap.size->Below base w (u.setCell ⟨g,o,none⟩ v):=λu o v hb _=>hb.setCell bg v;obtain⟨B1,aW,am,aR,a7⟩:=DU (MS wr (j*5) (I6 K) HB.o bi) aU az aF aE;clear E H hy B ay aB aU az eK aF aE aO;go_upto_region 5 with fail;obtain⟨w1,C⟩:∃v,v=wr.setCell ⟨g,j*5,none⟩ (I6 K):=⟨_,rfl⟩
   rw[<-C]at S1 B1⊢;clear C c0 c1 c2 U c4 f0 q;obtain⟨_,t,_,aK,_,c1,_,_,_,q⟩:=S1.o.get (Yl O);cases t;have f1:=q (j*5+1);have n:=Aa (show SO (w1.setCell ⟨g,j*5+1,none⟩ (I6 (K+1))) base (some ⟨g,0,none⟩) c (N.set j { x with code:=K,tag:=K+1 }) by
    have h:=S1.o.num (i:=1) (v:=I6 (K+1)) (x':={ x with code:=K,tag:=K+1 }) (Yl O) qd rfl rfl rfl rfl rfl;rwa [K8]at h)
   have W:=Aa (MS w1 (j*5+1) (I6 (K+1)) B1.o aK);clear q;go_upto_region 7 with fail;obtain⟨w2,C⟩:∃v,v=w1.setCell ⟨g,j*5+1,none⟩ (I6 (K+1)):=⟨_,rfl⟩
   rw[<-C]at n W⊢;clear C c1 f1 S1 B1;obtain⟨m,Z⟩:∃v,v=({ x with code:=K,tag:=K+1 }:E5):=⟨_,rfl⟩
   rw[<-Z]at n;have D:(N.set j m)[j]?=some m:=Yl O;obtain⟨pa,pc,ea,a5⟩:=(n.o.each m (yd D)).a;obtain⟨_,t,_,bj,_,_,c2,_,_,_⟩:=n.o.get D;cases t;rw[ea]at c2;have eP:Hv (m.P.map Prod.fst)=s.1:=by rw[aW.o,Z];rfl
   have bl:m.P.length<=1024000:=by
    have p:=am.o.1.1;rw[<-eP]at p;simpa[Hv] using p
   have aC:=Aa (lm (K+1+1) qd qd m.P pa pc base w2 a5 (n.o.pw (yd D)).1 qd (by rw[eP];exact am.o.1.2));rw[eP,<-aR.o]at aC;obtain⟨aP,I,aY⟩:=AQ Z D ea;clear a5 D ea eP Z;go_wp2_with fail;refine aC.o.an λw3⟨⟨N1,aX,aS,a6⟩,ar⟩=>?_;have A:=Aa (show SO w3 base (some ⟨g,0,none⟩) c (N.set j { m with P:=N1 }) by
    have h:=n.o.br I.o aY.o aX a6 ar;rwa [K8]at h)
   obtain⟨B3,bd⟩:=Ak (W.o.j (ar.J (yi aZ W.o.size) (λg' aw=>((n.o.each m (yd I.o)).lt (.inl (by rw[aY.o];exact aw))).1))) aS;obtain⟨b,R⟩:∃v,v=({ m with P:=N1 }:E5):=⟨_,rfl⟩
   rw[<-R]at A;have G:(N.set j b)[j]?=some b:=Yl O;obtain⟨qa,qc,ed,a0⟩:=(A.o.each b (yd G)).d;obtain⟨_,t,_,bk,_,_,_,U,_,_⟩:=A.o.get G;cases t;rw[ed]at U;have eQ:Hv (b.Q.map Prod.fst)=s.2:=by rw[aW.o,R,aP.o];rfl
   have bo:b.Q.length<=1024000:=by
    have p:=am.o.2.1;rw[<-eQ]at p;simpa[Hv] using p
   have aD:=Aa (lm K1 qd qd b.Q qa qc base w3 a0 (A.o.pw (yd G)).2 qd (by rw[eQ];exact am.o.2.2));rw[eQ,<-a7.o]at aD;obtain⟨a9,aI,aV⟩:=AQ R G ed;clear a0 G ed eQ R aX aS a6 ar aC c2 n W;go_wp2_with fail;refine aD.o.an λw4⟨⟨T,aH,a4,aQ⟩,au⟩=>?_;have S4:=Aa (show SO w4 base (some ⟨g,0,none⟩) c (N.set j { b with Q:=T }) by
    have h:=A.o.aY aI.o aV.o aH aQ au;rwa [K8]at h)
   obtain⟨B4,bc⟩:=Ak (B3.o.j (au.J (yi aZ B3.o.size) (λg' aw=>((A.o.each b (yd aI.o)).lt (.inr (by rw[aV.o];exact aw))).1))) a4;obtain⟨_,t,_,aL,_,_,_,_,c4,q⟩:=S4.o.get (Yl O);cases t;have f4:=q (j*5+4);have S5:=Aa (show SO (w4.setCell ⟨g,j*5+4,none⟩ (I6 r)) base (some ⟨g,0,none⟩) c (N.set j { b with Q:=T,size:=r }) by
    have h:=S4.o.num (i:=4) (v:=I6 r) (x':={ b with Q:=T,size:=r }) (Yl O) qd rfl rfl rfl rfl rfl;rwa [K8]at h)
   obtain⟨B5,D5⟩:=Ak (MS w4 (j*5+4) (I6 r) B4.o aL) (aN.o { b with Q:=T,size:=r } (by rw[a9.o,aP.o];simp only[DK,Hk,bd.o,bc.o,<-aR.o,<-a7.o]));clear q aH a4 aQ au aD U A B3 S4 B4 aN;go_wp2_with fail;rw[Y.o];go_roundw
   case rel=>exact⟨j+1,_,qd,ql,rfl,by rw[Kl];exact av.o,D5.o,S5.o,B5.o⟩
   case measure=>simp[intOf];omega
  have bf:j=L.length:=qd;have HQ:=Aa (show l.take j=l from yu (by rw[aA.o];omega));have HA:=Aa (show Hq wr a (Gu 1 l) by
   have p:=aq.o.sm.at;rw[aG.o,HQ.o,yD qg,yM]at p;exact p)
  rw[HQ.o];clear bf;go_wp2;go_ret;exact⟨rfl,HA.o,HB.o⟩
end
def Fc(o:Wo):Nat:=o.ak.size+Ik o.ad
def Pf(os:List Wo):Nat:=os.length+(os.map Fc).sum
def zo4(f a c left w)(hv:Bj w a f.ad)(i:f.ak.size<=maxLen)(hl:f.ad.length<=maxLen)(d:∀v∈f.ad,v.av.size<=maxLen)(Y:0<=left)(k:left<=1048576) :
  Ca 67 #[.agg #[I6 f.kind,I6 f.tag,.string f.ak,.slice a f.ad.length c],I6 left] w λe w'=>
   (∃r:Int,e=.returned (I6 r)/\Left r left (Fc f))/\Bw w w':=by
 unfold maxLen at i;by_cases j:left<f.ak.size
 .go_enter func67,ntmps67;go_wp2;go_ret;exact⟨⟨-1,rfl,.inl rfl⟩,Af⟩
 go_enter func67,ntmps67;go_wp2_with (go_at_call 129;refine(zkQ a c f.ad _ _ (hv.J Af) hl d qd qd).ac ?_;rintro e w' ⟨⟨g,rfl,O⟩,b⟩)
 .go_ret;exact⟨⟨-1,rfl,.inl rfl⟩,Af.aj b⟩
 go_ret;refine⟨⟨g,rfl,.inr ⟨qj,?_⟩⟩,Af.aj b⟩;unfold Fc;rcases O with h|⟨_,h⟩<;>omega
def zne(a c fs left w)(hv:Gj w a fs)(hl:fs.length<=maxLen)(p:∀f∈fs,f.ak.size<=maxLen/\f.ad.length<=maxLen/\∀v∈f.ad,v.av.size<=maxLen)(B:0<=left)(C:left<=1048576) :
  Ca 21 #[.slice a fs.length c,I6 left] w λe w'=>
   (∃r:Int,e=.returned (I6 r)/\Left r left (Pf fs))/\Bw w w':=by
 unfold maxLen at hl;by_cases n:left<fs.length
 .go_enter func21,ntmps21;exact Ng
 go_enter func21,ntmps21;go_wp2
 go_loopw [1,5] (λl i wr=>∃(k:Nat)(r:Int),k<=fs.length/\i=I6 k/\l=I6 r/\0<=r/\r+fs.length+((fs.take k).map Fc).sum<=left/\Bw w wr) (λ_ i _=>fs.length-(intOf i).toNat)
 case atStart=>exact⟨0,_,qd,rfl,rfl,qd,qe,Aj⟩
 case round=>
  obtain⟨k,r,y,rfl,rfl,aj,Y,hb⟩:=hrel;by_cases q:k<fs.length
  .obtain⟨f,O⟩:=AJ q;obtain⟨b,o,s,u,rfl,A,z,D,x,d⟩:=hv.J hb k f O;have j:=Ma Fc fs k f O;have HZ:Hid (((fs.take (k+1)).map Fc).sum=((fs.take k).map Fc).sum+Fc f):=j;obtain⟨g,t,m⟩:=p f (yd O);clear j;go_wp2_with (go_at_call 67;refine(zo4 f s u _ _ d g t m qd qd).ac ?_;rintro e w' ⟨⟨r',rfl,ah⟩,hb'⟩)
   .exact Nf
   exact X3
  go_wp2;go_ret;refine⟨⟨r,rfl,.inr ⟨aj,?_⟩⟩,hb⟩;rw[yu qd]at Y;unfold Pf;omega
section
attribute [local go_sem ↓] wp_at_zero wp_at_succ
def zmI(f:Wo)(a b c g w)(hv:Bj w a f.ad)(O:Bj w b f.ad)(hl:f.ad.length<=1048576) :
  Ca 72 #[.agg #[I6 f.kind,I6 f.tag,.string f.ak,.slice a f.ad.length c],.agg #[I6 f.kind,I6 f.tag,.string f.ak,.slice b f.ad.length g]] w λe w'=>
   e=.returned (.bool true)/\Bw w w':=by
 go_enter func72,ntmps72;go_wp2_with (go_at_call 138;refine(zjr a b c g f.ad _ (hv.J Ax) (O.J Ax) hl).an λw' d=>?_);go_ret;exact⟨rfl,Ax.aj d⟩
def zmi(a g c x fs w)(hv:Gj w a fs)(u:Gj w g fs)(hl:fs.length<=1048576)(n:∀f∈fs,f.ad.length<=1048576) :
  Ca 28 #[.slice a fs.length c,.slice g fs.length x] w λe w'=>
   e=.returned (.bool true)/\Bw w w':=by
 go_enter func28,ntmps28;go_wp2
 go_loopw [5] (λi wr=>∃(k:Nat),k<=fs.length/\i=I6 k/\Bw w wr) (mz fs.length)
 case atStart=>exact⟨0,qd,rfl,Aj⟩
 case round=>
  obtain⟨k,E,rfl,hb⟩:=hrel;by_cases q:k<fs.length
  .obtain⟨f,O⟩:=AJ q;obtain⟨b,o,s,cs,rfl,v,H,L,A,d⟩:=hv.J hb k f O;obtain⟨K,o',t,p,rfl,r,C,G,B,Y⟩:=u.J hb k f O;have I:(0:Int)<=(k:Int):=qd;have D:(k:Int)<(fs.length:Int):=qd;have m:=n f (yd O);have l:Bw wr wr.drew:=Aj.drew;go_wp2;have y:=ES v;have z:=ES r
   go_region_held3 (Kc wr) ((first | exact Kc.dr | exact Kc.dr.nx hb' qe))
    (first|(go_at_call 72;refine(zmI f s t cs p _ (d.J l) (Y.J l) m).an λw' hb'=>?_))
   exact Mf
  exact J4
end
def rM:(prog.info? 40).map (λi=>(i.zero,i.size,i.bytes))=some (some (.agg #[I6 0,I6 0,.string ByteArray.empty,.slice none 0 0]),4,56):=qf
def Fb(o:Wo)(v:Value):List Value:=[.int .i64 o.kind,.int .i64 o.tag,.string o.ak,v]
def AX.dz{w g t N k rs}(h:AX w g t 4 N rs)(b:rs.length=k)(a:k<N)(x y z u) :
  AX ((((w.setCell ⟨g,k*4,none⟩ x).setCell ⟨g,k*4+1,none⟩ y).setCell ⟨g,k*4+2,none⟩ z).setCell ⟨g,k*4+3,none⟩ u) g t 4 N (rs++[[x,y,z,u]]):=by
 subst b;exact h.put [x,y,z,u] rfl a
def AX.dY{w g t N rs}(h:AX w g t 4 N rs){i}(a:i<N) :
  (∃ x,At w g (i * 4) x)/\(∃ x,At w g (i * 4+1) x)/\(∃ x,At w g (i * 4+2) x)/\(∃ x,At w g (i * 4+3) x) /\
   w.frozen? ⟨g,i*4,none⟩=false/\w.frozen? ⟨g,i*4+1,none⟩=false/\w.frozen? ⟨g,i*4+2,none⟩=false/\w.frozen? ⟨g,i*4+3,none⟩=false:=
 ⟨h.there (j:=0) a qd,h.there (j:=1) a qd,h.there (j:=2) a qd,h.there (j:=3) a qd,h.free _,h.free _,h.free _,h.free _⟩
structure Gl(w:World) (g:Nat) (N:Nat) (fs:List Wo) (gs:List Nat):Prop where
 len:gs.length=fs.length
 own:AX w g 40 4 N ((fs.zip gs).map λp=>Fb p.1 (.slice (some ⟨p.2,0,none⟩) p.1.ad.length p.1.ad.length))
 each:∀(i:Nat)(f:Wo)(h:Nat),fs[i]?=some f->gs[i]?=some h->AX w h 187 3 f.ad.length (f.ad.map V.cells)
 gt:∀h∈gs,g<h
 nodup:gs.Nodup
def Gl.at{w g N fs gs}(h:Gl w g N fs gs):Gj w (some ⟨g,0,none⟩) fs:=by
 intro i f hf;obtain⟨hi,rfl⟩:=yf.1 hf;have hg:gs[i]?=some (gs[i]'(by rw[h.len];exact hi)):=yK _;have O:((fs.zip gs).map λp=>Fb p.1 (.slice (some ⟨p.2,0,none⟩) p.1.ad.length p.1.ad.length))[i]?=some (Fb fs[i] (.slice (some ⟨gs[i]'(by rw[h.len];exact hi),0,none⟩) fs[i].ad.length fs[i].ad.length)):=by
  exact nh
 refine⟨g,0,some ⟨gs[i]'(by rw[h.len];exact hi),0,none⟩,fs[i].ad.length,rfl,?_,?_,?_,?_,Bj.own (h.each i _ _ hf hg)⟩
 .simpa using h.own.cell O (j:=0) rfl
 .simpa using h.own.cell O (j:=1) rfl
 .simpa using h.own.cell O (j:=2) rfl
 simpa using h.own.cell O (j:=3) rfl
def w_(f:Wo)(a c w)(hv:Bj w a f.ad)(hl:f.ad.length<=1048576) :
  Ca 69 #[.agg #[I6 f.kind,I6 f.tag,.string f.ak,.slice a f.ad.length c]] w λe w'=>
   (∃h,w.heap.size<=h/\e=.returned (.agg #[I6 f.kind,I6 f.tag,.string f.ak,.slice (some ⟨h,0,none⟩) f.ad.length f.ad.length])/\AX w' h 187 3 f.ad.length (f.ad.map V.cells))/\Bw w w':=by
 go_enter func69,ntmps69;go_wp2_with (go_at_call 133;refine(zlw a c f.ad _ (hv.J ?_) hl).ac ?_;exact((Af.alloc qe _).alloc qg _);rintro e w' ⟨⟨rfl,d⟩,b⟩;obtain⟨g,k⟩:=Ah b);refine bodyPost_ret (v:=.agg #[I6 f.kind,I6 f.tag,.string f.ak,.slice (some ⟨w.heap.size+1+1+1,0,none⟩) f.ad.length f.ad.length]) (by simp[results,results69,go_sem,g]) rfl ⟨⟨w.heap.size+1+1+1,qd,rfl,?_⟩,?_⟩
 .simp only[Wy]at d;exact((((d.aB qe _).aB qg _).aB qg _).aB qg _).aB qg _
 have i:Bw w w':=((Af.alloc qe _).alloc qg _).j (b.ac qg);exact((((i.setCell qg _).setCell qe _).setCell qe _).setCell qe _).setCell qe _
def Gl.lt{w g N fs gs}(h:Gl w g N fs gs):g<w.heap.size/\∀x∈gs,x<w.heap.size:=by
 exact oZ
def Gl.J{w w' g N B fs gs}(h:Gl w g N fs gs)(hb:Below B w w')(a:w.heap.size<=B):Gl w' g N fs gs:=by
 exact nN
def Gl.start(w:World)(z N):Gl (w.alloc (.cells (madeCells z (N*4)) 40)) w.heap.size N [] []:=
 ⟨rfl,AX.made _ _ _ _ _,λi f x hf=>Mi,λx hx=>qN,We⟩
def Gl.step{w w' g N k h fs gs f}(H:Gl w g N fs gs)(hb:Bw w w')(ho:AX w' h 187 3 f.ad.length (f.ad.map V.cells))(j:w.heap.size<=h)(c:fs.length=k)(e:k<N) :
  Gl ((((w'.setCell ⟨g,k*4,none⟩ (I6 f.kind)).setCell ⟨g,k*4+1,none⟩ (I6 f.tag)).setCell ⟨g,k*4+2,none⟩ (.string f.ak)).setCell ⟨g,k*4+3,none⟩ (.slice (some ⟨h,0,none⟩) f.ad.length f.ad.length)) g N (fs++[f]) (gs++[h]):=by
 have hl:=H.lt;have H':=H.J hb AA;have d:gs.length=k:=by rw[H.len,c]
 refine⟨by simp[H.len],?_,?_,?_,?_⟩
 .have:=H'.own.dz (k:=k) (by simp[H.len,c]) e (I6 f.kind) (I6 f.tag) (.string f.ak) (.slice (some ⟨h,0,none⟩) f.ad.length f.ad.length);rw[KX (by rw[H.len]),yJ];exact this
 .intro i f' x hf hx;have O:x≠g:=by
   exact nu
  have key:AX w' x 187 3 f'.ad.length (f'.ad.map V.cells):=by
   exact oP
  exact(((key.aB O _).aB O _).aB O _).aB O _
 .exact mx
 exact nZ
def zmt(a c fs w)(hv:Gj w a fs)(hl:fs.length<=1048576)(n:∀f∈fs,f.ad.length<=1048576) :
  Ca 24 #[.slice a fs.length c] w λe w'=>
   (e=.returned (.slice (some ⟨w.heap.size,0,none⟩) fs.length fs.length)/\∃gs,Gl w' w.heap.size fs.length fs gs)/\Bw w w':=by
 have t:=M7 (P:=prog) 32 40 _ 4 56 underlying32 rM fs.length qd qd;go_enter func24,ntmps24;go_wp2;clear t
 go_loopw [4] (λi wr=>∃(k:Nat)(gs:List Nat),k<=fs.length/\i=I6 k/\Gl wr w.heap.size fs.length (fs.take k) gs/\Bw w wr) (mz fs.length)
 case atStart=>exact⟨0,[],qd,rfl,Gl.start _ _ _,Af⟩
 case round=>
  obtain⟨k,gs,I,rfl,g,l⟩:=hrel;by_cases Y:k<fs.length
  .obtain⟨f,O⟩:=AJ Y;obtain⟨b,o,s,u,rfl,E,L,M,A,j⟩:=hv.J l k f O;have p:=n f (yd O);go_wp2_with (go_at_call 69;refine(w_ f s u _ j p).ac ?_;rintro e w' ⟨⟨h,r,rfl,q⟩,d⟩;have m:=g.own.J d g.own.lt;obtain⟨⟨x0,v⟩,⟨x1,B⟩,⟨z,D⟩,⟨G,x⟩,C,y,H,K⟩:=m.dY Y);go_roundw
   case rel=>
    refine⟨k+1,gs++[h],qd,ql,?_,((((l.aj d).setCell qn _).setCell qn _).setCell qn _).setCell qn _⟩;rw[GC fs k f O];exact g.step d q r qg Y
   case measure=>(simp;omega)
  go_wp2;go_ret;rw[yu qd]at g;exact⟨⟨rfl,gs,g⟩,l⟩
section
attribute [local go_sem ↓] wp_at_zero wp_at_succ
def Gl.nest{w g N B H fs gs}(h:Gl w g N fs gs)(r:B<=g)(o:w.heap.size<=H):Ea (H7 B H) w (some ⟨g,0,none⟩) (fs.map λf=>f.ad.length) 4 3 3:=by
 intro j n hj;rw[yx]at hj;cases b:fs[j]? with
 |none=>rw[b]at hj;cases hj
 |some f=>
  rw[b]at hj;simp at hj;subst hj;have s:j<fs.length:=(yf.1 b).1;obtain⟨k,e⟩:∃k,gs[j]?=some k:=⟨gs[j]'(by rw[h.len];exact s),yK _⟩
  have Y:((fs.zip gs).map λp=>Fb p.1 (.slice (some ⟨p.2,0,none⟩) p.1.ad.length p.1.ad.length))[j]?=some (Fb f (.slice (some ⟨k,0,none⟩) f.ad.length f.ad.length)):=by
   rw[yx,(WG (z:=(f,k))).2 ⟨b,e⟩];rfl
  have O:=h.each j f k b e;have u:=h.gt k (yd e);have d:H7 B H g:=⟨r,yh h.own.lt o⟩
  have a:H7 B H k:=⟨qd,yh O.lt o⟩
  refine⟨g,0,some ⟨k,0,none⟩,f.ad.length,rfl,λq c m=>?_,by simpa using h.own.cell (j:=3) Y rfl,λi t=>?_⟩
  .match q,c,m with
   |0,_,_=>exact⟨d,h.own.free _,_,by simpa using h.own.cell (j:=0) Y rfl,rfl⟩
   |1,_,_=>exact⟨d,h.own.free _,_,by simpa using h.own.cell (j:=1) Y rfl,rfl⟩
   |2,_,_=>exact⟨d,h.own.free _,_,by simpa using h.own.cell (j:=2) Y rfl,rfl⟩
   |3,_,m=>exact absurd rfl m
  obtain⟨v,hv⟩:=AJ t;have l:(f.ad.map V.cells)[i]?=some v.cells:=by rw[yx,hv];rfl
  refine⟨k,0,rfl,λq c=>?_⟩
  match q,c with
  |0,_=>exact⟨a,O.free _,_,by simpa using O.cell (j:=0) l rfl,rfl⟩
  |1,_=>exact⟨a,O.free _,_,by simpa using O.cell (j:=1) l rfl,rfl⟩
  |2,_=>exact⟨a,O.free _,_,by simpa using O.cell (j:=2) l rfl,rfl⟩
def zlX(S a ns c O w)(ho:Ea S w a ns 4 3 3)(hl:ns.length<=1048576)(hs:∀n∈ns,n<=1048576)(d:0<O)(Y:AZ 3 3 O ns<=100000000) :
  Ca 31 #[.slice a ns.length c,I6 O] w λe w'=>e=.returned (I6 (AZ 3 3 O ns))/\Tr S w w':=by
 exact pO
end
end Go.Proofs.YtikojfajahnhgaaGreat
