import Derived.Test.YtikojfajahnhgaaGreatKaj
import Derived.Test.YtikojfajahnhgaaGreatKao
import Derived.Test.YtikojfajahnhgaaGreatKar
set_option linter.all false
set_option maxHeartbeats 3200000
set_option maxRecDepth 100000
namespace Go.Proofs.YtikojfajahnhgaaGreat
open Go.RowKit Go.Proofs.Tryz
attribute [local go_sem ↓] wp_at_zero wp_at_succ
attribute [local simp] At I6 Pn mzI Bk
attribute [local go_sem] At I6 Pn Bk
set_option maxHeartbeats 1600000 in
def zim(a:Af)(c:Nat)(es:AL)(S:BS)(e:Ex)(w:Aa){q:AD}(hv:EI q w a es)(hl:es.length<=60)(hS:Bt es S)(i:es[S.length]?=some e)(A:e.le maxLen)(O:0<=e.op)(p:e.op<256) :
  Ca 234 #[.slice a es.length c,I6 (S.length:Int)] w λt w'=>t=.returned (.bool (DY S e).isSome)/\Bw w w':=by
 obtain⟨v,C⟩:=A;have D:S.length<es.length:=(yf.1 i).1;have d:=hv;obtain⟨b,o,rfl,E,G,L,H,I,K,N,J,M⟩:=hv.get i;by_cases x:e.w=0
 .have f:(e.w==0)=true:=by simp[x]
  cases k:(e.op==0)<;>cases m:(e.a==0)<;>cases l:(e.b==0)<;>cases n:e.F.toList.isEmpty
  all_goals
   go_enter func234,ntmps234;go_wp2_with (go_at_call 176;refine(V2 e.val _ C).j ?_;rintro t w' ⟨rfl,g⟩);go_ret
  all_goals first
   |exact⟨Ba (by simp[DY,MC,DA,f,k,m,l,n]),Ar⟩
   |exact⟨Ba (by simp[DY,MC,DA,f,k,m,l,n];cases Dk e.val<;>rfl),Ar.thn g⟩
 by_cases u:e.w=1
 .have f:(e.w==0)=false:=by simp[u]
  have s:(e.w==1)=true:=by simp[u]
  cases k:(e.op==0)<;>cases m:(e.a==0)<;>cases l:(e.b==0)<;>cases n:AP e.F.data.toList
  all_goals
   go_enter func234,ntmps234;go_wp2_with (first|(go_at_call 116;refine(J6 e.F _ v).j ?_;rintro t w' ⟨rfl,rfl⟩)|(go_at_call 267;refine(PT e.val _).j ?_;rintro t w' ⟨rfl,g⟩));go_ret
  all_goals first
   |exact⟨Ba (by simp[DY,MC,f,s,k,m,l,n]),Ar⟩
   |exact⟨Ba (by simp[DY,MC,f,s,k,m,l,n];cases E4 e.val<;>rfl),Ar.thn g⟩
 have f:(e.w==0)=false:=by simpa using x
 have s:(e.w==1)=false:=by simpa using u
 by_cases k2:e.w=2
 .cases r:Eh e.op
  .exact h_ _ c es S e w d i O p k2 r
  cases y:e.F.toList.isEmpty
  .exact mB _ c es S e w d i O p k2 r (by rw[y];rfl)
  cases z:E4 e.val
  .exact mB _ c es S e w d i O p k2 r (by rw[z];simp)
  exact wJ _ c es S e w d hl hS i O p k2 r y z
 have B:(e.w==2)=false:=T5;cases k:(e.op==0)<;>cases m:(e.a==0)<;>cases l:(e.b==0)
 all_goals
  go_enter func234,ntmps234;go_wp2;go_ret;exact⟨Ba (by simp[DY,f,s,B]),Ar⟩
def zmN(x J H m u D I){q}(w)(ay:Gl q w J x.x)(M:EI q w m x.A)(az:Ih q w D x.K)(bF:x.le 1048576)(aU:AO x=none) :
  Ca 168 #[.agg #[.string x.name,.int .i64 x.aq,.slice J x.x.length H,.slice m x.A.length u,.slice D x.K.length I]] w λe w'=>e=.returned (.int .i64 (Pa (Bp x)))/\Bw w w':=by
 obtain⟨bJ,bm,bn,bp⟩:=bF;obtain⟨b6,b8,bG,bE,am,aI⟩:=VJ aU;obtain⟨Y,aL⟩:=AF (Dv [] x.A);have bh:Bt x.A Y:=by rw[aL];exact(iH (Bt.nil _) rfl).1
 have aE:He Y x.K 0 1=none:=by rw[aL];exact zoh aU
 rw[<-aL]at am;obtain⟨aS,aG,bo,bT,bd,b7,bA,aZ⟩:=XD bh aE am aI bE bn bp bm;obtain⟨HH⟩:Nonempty (Hid (Bp x=match Fw x.x [] 1 with|.inl i=>some i|.inr d=>Je x d)):=⟨m_ x⟩
 go_enter func168,ntmps168;go_wp2
 go_loopw [3,16] (λkv i wr=>∃(k:Nat)(d:AG)(a:Af)(c:Nat),k<=x.x.length/\i=.int .i64 k/\kv=.slice a d.length c/\Fw x.x [] 1=Fw (x.x.drop k) d (k+1)/\d.length<=6*k/\(a=none->d.length=0)/\JE none wr a d/\Fu wr w.heap.size x J H m u D I/\Bw w wr) (λ_ i _=>x.x.length-(intOf i).toNat)
 .exact⟨0,[],none,0,qd,rfl,rfl,rfl,qf,λ_=>rfl,CI.nil,Fu.aO _ _ _ _ _ _ _ _ _,Ar⟩
 obtain⟨k,d,a,c,hk,rfl,rfl,hG,cf,ac,aM,af,hb⟩:=hrel;obtain⟨HG,HBX,ai,aD⟩:=BP hG af aM ac;have bC:w.heap.size<wr.heap.size:=Oo af.1;by_cases bB:k<x.x.length
 .obtain⟨p,ax⟩:=Bq bB;obtain⟨b,o,C,B,rfl,hq,c0,c1,c2,aq⟩:=(ay.e hb).get ax;have cd:=aZ.2 p (yd ax);have bI:=bd p (yd ax);have HD:Hid (x.x.drop k=p::x.x.drop (k+1)):=Dx ax;have bw:=Ad aq;obtain⟨N,rfl⟩:=AF wr;go_wp2_with (at_builtin;refine Dp qh (.tmp 21) (.tmp 22) 185 qh (N.heap.size+1) 9 _ 1 16 underlying185 lj qh qd _ 0 [] qh (yJ _ _ _ _) a d.length c qh (d.map Value.string) qf aD (zr8 (ai.e Ar)) (zti d) qj qd qf ?_;intro a2 a6 w2 bc a9 bU;have aX:Below (N.heap.size+1) (N.alloc (.cells #[.bool p.neg,.string p.E,.slice C p.s.length B] 152)) w2:=(Au.grown a9 qf (λj hj=>by cases hj));have d2:w2.cell? ⟨N.heap.size,2,none⟩=some (.slice C p.s.length B):=(aX.cell (p:=⟨N.heap.size,2,none⟩) qf).c ql);have aR:w2.ownsRow (N.heap.size+1) 9 1 (.slice a2 d.length a6) d.length (d.map Value.string):=by
   have:=bc.o;simpa using this
  go_loopw [6,27] (λhv i ak=>∃(j:Nat)(f:AG)(a':Af)(c':Nat),j<=p.s.length/\i=.int .i64 j/\hv=.slice a' f.length c'/\Dd p.s d=Dd (p.s.drop j) f/\f.length<=6*k+j/\ak.ownsRow (N.heap.size+1) 9 1 (.slice a' f.length c') f.length (f.map Value.string)/\Below (N.heap.size+1) (N.alloc (.cells #[.bool p.neg,.string p.E,.slice C p.s.length B] 152)) ak) (λ_ i _=>p.s.length-(intOf i).toNat)
  .exact⟨0,d,a2,a6,qd,rfl,qf,rfl,qd,aR,aX⟩
  obtain⟨j,f,a',c',hj,rfl,rfl,hT,bY,ab,O⟩:=hrel;obtain⟨HT,HO⟩:=An hT ab;have aF:Bw N wr:=Ar.c (O.j qd);have W:Bw w wr:=hb.thn aF;have R:=O.size;have A1:∀o,Below (N.heap.size+1) (N.alloc (.cells #[.bool p.neg,.string p.E,.slice C p.s.length B] 152)) (wr.alloc o):=λo=>O.alloc (by simp at R;omega) _;by_cases aO:j<p.s.length
  .obtain⟨t,aQ⟩:=Bq aO;obtain⟨b',o',ea,hq,c0,c1,c2,c3,c4,c5⟩:=(bw.e aF).get aQ;subst ea;have au:Hid (p.s.drop j=t::p.s.drop (j+1)):=Dx aQ;have AW:∀o,Bw w (wr.alloc o):=λo=>W.alloc W.size _;by_cases k2:t.w=2
   .have HN:Hid (Dd p.s d=Dd (p.s.drop (j+1)) (f++[t.F])):=show Dd p.s d=_ from by rw[HT.o,au.o,OC];simp[El,k2]
    rw[k2]at c0;go_wp2_with (at_builtin;refine Dp qh (.tmp 51) (.tmp 54) 185 qh (N.heap.size+1) 9 _ 1 16 underlying185 lj qh qd _ f.length _ qh ((HO.alloc _).alloc _) (some ⟨wr.heap.size+1,0,none⟩) 1 1 qh [.string t.F] qh (λe=>qo) (CH _ _ _ _ qf) Ua qj qd (by simp at R⊢;omega) ?_;intro a3 aY w3 bi bq bL);have br:=(((A1 _).alloc (by simp at R;simp;omega) _).grown bq (by simp at R;simp;omega) (λg hg=>(HO.lt g hg).1))
    have aP:w3.ownsRow (N.heap.size+1) 9 1 (.slice a3 (f++[t.F]).length aY) (f++[t.F]).length ((f++[t.F]).map Value.string):=by
     have:=bi.o;simpa using this
    go_roundw;exact⟨j+1,f++[t.F],a3,aY,qd,qm,qf,HN,qe,aP,br⟩;simp[intOf];omega
   by_cases k3:t.w=3/\t.F.toList.isEmpty=false
   .obtain⟨k3,v0⟩:=k3;rw[k3]at c0;have hI:=Ad (λw' h=>ZJ t.F a' c' f w' (q:=none) h qd);cases hm:Co t.F f
    all_goals
     rw[hm]at hI;go_wp2_with (go_at_call 106;refine(hI _ ((JE.owns HO).e Ar)).j ?_;rintro e' w1 ⟨rfl,rfl⟩)
    .have HX:Hid (Bp x=some (k+1)):=show Bp x=_ from by
      have hz:Dd p.s d=none:=by
       rw[HT.o,au.o,OC];simp[El,k3,DA,hm];intro h;simp[h]at v0
      rw[HH.o,HG.o,HD.o,RN,hz]
     go_ret;exact⟨GT (by rw[HX.o];simp[Pa]),AW _⟩
    have HN:Hid (Dd p.s d=Dd (p.s.drop (j+1)) f):=show Dd p.s d=_ from by rw[HT.o,au.o,OC];simp[k3,hm]
    go_roundw;exact⟨j+1,f,a',c',qd,qm,rfl,HN,qd,HO.alloc _,A1 _⟩;simp[intOf];omega
   have HN:Hid (Dd p.s d=Dd (p.s.drop (j+1)) f):=show Dd p.s d=_ from by
    have ha:El t=false:=by
     exact su
    rw[HT.o,au.o,OC,ha];simp[k2]
   by_cases h3:t.w=3
   focus
    have bV:t.F.toList.isEmpty=true:=by cases h:t.F.toList.isEmpty<;>simp_all
    rw[h3]at c0
   rotate_left;rotate_left
   all_goals
    go_wp2;exact⟨⟨j+1,f,a',c',qd,qm,rfl,HN,qd,HO.alloc _,A1 _⟩,qp⟩
  have HN:Hid (Dd p.s d=some f):=show Dd p.s d=_ from by
   rw[HT.o,yH qd];rfl
  have d0:wr.cell? ⟨N.heap.size,0,none⟩=some (.bool p.neg):=(O.cell (p:=⟨N.heap.size,0,none⟩) qf).c ql;have a0:Fu wr w.heap.size x (some ⟨b,o,none⟩) H m u D I:=(HBX.e Ar).ay O qd;cases aW:p.neg
  all_goals
   rw[aW]at d0;have HM:Hid (Fw x.x [] 1=Fw (x.x.drop (k+1)) (if p.neg then d else f) (k+1+1)):=show Fw x.x [] 1=_ from by rw[HG.o,HD.o,RN,HN.o]
   rw[aW]at HM;go_wp2
  .go_roundw
   case rel=>exact⟨k+1,f,a',c',qd,qm,rfl,HM,qd,zqN HO,JE.owns HO,a0,W⟩
   case measure=>simp[intOf];omega
  go_roundw
  case rel=>exact⟨k+1,d,a,c,qd,qm,rfl,HM,qd,aD,ai.e aF,a0,W⟩
  case measure=>simp[intOf];omega
 have bu:d.length<=36:=qd;have HN:Hid (Bp x=Je x d):=show Bp x=_ from by rw[HH.o,HG.o,yH qd];rfl
 obtain⟨q0,q1,q2,q3,q4⟩:=af;go_wp2
 go_loopw [65] (λi ak=>∃(k nx:Nat),k<=x.K.length/\i=.int .i64 k/\Je x d=Eu (Hd x.A d) (x.K.drop k) (x.x.length+1+k)/\He Y (x.K.drop k) nx (k+1)=none/\(x.A.take nx).all (E8 d)=true/\JE none ak a d/\Fu ak w.heap.size x J H m u D I/\Bw w ak) (λi _=>x.K.length-(intOf i).toNat)
 .exact⟨0,0,qd,rfl,rfl,aG,qf,ai,HBX,hb⟩
 obtain⟨k,nx,hk,rfl,hG,aE,ao,aM,af,hb⟩:=hrel;obtain⟨HG,aG,aA,ai,HBX⟩:=Ei hG aE ao aM af;have bC:w.heap.size<wr.heap.size:=Oo af.1;by_cases aT:k<x.K.length
 .obtain⟨y,aK⟩:=Bq aT;obtain⟨b,o,ad,T,rfl,hq,c0,c1,c2,c3,L⟩:=(az.e hb).get aK;have bO:=(bA.2 y (yd aK)).2;have HD:Hid (x.K.drop k=y::x.K.drop (k+1)):=Dx aK;have AW:∀o,Bw w (wr.alloc o):=λo=>hb.alloc hb.size _;obtain⟨nx',bl,a5⟩:∃n,CM Y y nx=some n/\He Y (x.K.drop (k+1)) n (k+1+1)=none:=by
   have h:=aG.o;rw[HD.o,Tu]at h;cases hg:CM Y y nx with
   |none=>rw[hg]at h;cases h
   |some n=>rw[hg]at h;exact⟨n,rfl,h⟩
  have aj:=zsu bl;have aC:=Ad a5;by_cases U:y.args=[]
  .have ae:nx'=nx:=by
    rw[U]at aj;have:some nx=some nx':=aj;injection this with this;exact this.z
   subst ae;have HX:Hid (Je x d=Eu (Hd x.A d) (x.K.drop (k+1)) (x.x.length+1+(k+1))):=show Je x d=_ from by
    rw[HG.o,HD.o,J8,show Hd x.A d y=true by simp[Hd,U]];rfl
   have bt:y.args.length=0:=by simp[U]
   rw[bt]at c3;go_wp2;exact⟨⟨k+1,nx',qd,qm,HX,aC,aA,ai.e Ar,HBX.e Ar,AW _⟩,qp⟩
  obtain⟨Z,aJ,a8,ce⟩:=rG U aj;have bH:=oR aS aj;obtain⟨G,aa⟩:∃G,y.args.length=G+1:=⟨y.args.length-1,by have:=List.length_pos_iff.2 U;omega⟩
  have aH:y.args[G]?=some (Z:Int):=by
   rw[WZ,aa,Wj]at aJ;exact aJ
  obtain⟨x0,s0,bD,bz,a7⟩:∃(x0:Nat)(s0:Sp),y.args[0]?=some (x0:Int)/\Y[x0]?=some s0/\s0.1=nx:=by
   cases hy:y.args with
   |nil=>exact absurd hy U
   |cons v r=>
    rw[hy]at aj;obtain⟨x0,s0,rfl,h1,h2,_⟩:=gT aj;exact⟨x0,s0,qf,h1,h2⟩
  have aV:Hid (Hd x.A d y=(x.A.take (Z+1)).all (E8 d)):=zme aJ;obtain⟨ba,oa,ea,_,g0⟩:=L.get bD;subst ea;obtain⟨bP,bN,bg,_,gl⟩:=L.get aH;cases bg;have bW:=bo.o;rw[aa]at c3;have z0:(0:Int)<(G:Int)+1:=qd;have z1:¬(G:Int)+1=0:=qd;have z2:(0:Int)<((G+1:Nat):Int):=qd;have z3:(((G+1:Nat):Int)==0)=false:=by simp;omega
  have z4:(((G:Int)+1)==0)=false:=by simp;omega
  have bj:=λo=>zab (Gp o) g0;have bS:=λo=>zab (Gp o) af.2.2.2.1;have bk:=Ad (λo=>(M.e (AW o)));simp only[Nat.add_zero]at g0 bj;go_wp2;obtain⟨bZ,bv⟩:=An (L) gl;have hz:=λn=>VQ m u x.A Y x0 s0 ((wr.alloc (.cells #[.int .i64 y.w,.int .i64 y.k,.string y.E,.slice (some ⟨ba,oa,none⟩) (G+1) T] 227)).drewN n) ((bk _).e (GH Au)) aS bz;have HZ:=Ad hz
  go_quiet (first|(go_at_call 236;refine Y5 (HZ _)))
  rw[a7];go_wp2;obtain⟨wa,rfl⟩:=AF wr
  go_loopw [11] (λkv aN=>∃(j:Nat),nx<=j/\j<=Z+1/\kv=.int .i64 (j:Int)/\(x.A.take j).all (E8 d)=true/\aN.cell? ⟨wa.heap.size,3,none⟩=some (.slice (some ⟨ba,oa,none⟩) (G+1) T)/\Bw wa aN) (λkv _=>Z+1-(intOf kv).toNat)
  .exact⟨nx,yA _,qd,rfl,aA,ql,GH Ar⟩
  obtain⟨j,b4,bQ,rfl,ao,aB,O⟩:=hrel;have ar:=Ad ao;have W:Bw w wr:=hb.thn O;have bf:=HBX.e O;have bM:=zab O bv;have bX:IntKind.i64.wrap ((G:Int)+1-1)=(G:Int):=by rw[show(G:Int)+1-1=(G:Int) by omega,Yh];omega
  have b5:IntKind.i64.wrap (((G+1:Nat):Int)-1)=(G:Int):=by rw[show((G+1:Nat):Int)-1=(G:Int) by omega,Yh];omega
  have bR:IntKind.i64.wrap (G:Int)=(G:Int):=by rw[Yh];omega
  have y0:(0:Int)<=(G:Int):=qd;have y1:(G:Int)<((G+1:Nat):Int):=qd;have y2:(G:Int)<(G:Int)+1:=qd;by_cases aO:j<=Z
  .obtain⟨e,aw⟩:∃e,x.A[j]?=some e:=⟨x.A[j]'(by omega),qf⟩
   obtain⟨be,oe,ee,b0,e0,e1,e2,e3,e4,e5,e6,e7⟩:=(M.e W).get aw;subst ee;obtain⟨r0,r1,r2,r3,r4⟩:=bf;have v0:(0:Int)<=(j:Int):=qd;have v1:(j:Int)<(x.A.length:Int):=qd;have v2:(j:Int)<=(Z:Int):=qd;have R:=O.size;have bK:=λo=>zab (Gp o) r2;by_cases ek:e.w=1
   .rw[ek]at e0;have hI:=Ad (λw' h=>ZJ e.F a c d w' (q:=none) h qd);cases hm:Co e.F d
    all_goals
     rw[hm]at hI;go_wp2_with (go_at_call 106;refine(hI _ ((ai.e O).e Ar)).j ?_;rintro e' w1 ⟨rfl,rfl⟩)
    .have HX:Hid (Bp x=some (x.x.length+1+k)):=show Bp x=_ from by
      rw[HN.o,HG.o,HD.o,J8,aV.o,zij aw qd (show E8 d e=false by simp[E8,ek,hm])];rfl
     go_ret;exact⟨GT (by rw[HX.o];simp[Pa];omega),W.alloc W.size _⟩
    have HJ:Hid ((x.A.take (j+1)).all (E8 d)=true):=show(x.A.take (j+1)).all (E8 d)=true from by rw[nu aw,ar.o];simp[E8,hm]
    go_roundw;exact⟨j+1,qd,qd,qm,HJ,zab Ar aB,O.alloc R _⟩;simp[intOf];omega
   have HJ:Hid ((x.A.take (j+1)).all (E8 d)=true):=show(x.A.take (j+1)).all (E8 d)=true from by rw[nu aw,ar.o];simp[E8,ek]
   go_wp2;exact⟨⟨j+1,qd,qd,qm,HJ,zab Ar aB,O.alloc R _⟩,qp⟩
  have a4:j=Z+1:=qd;have v2:¬(j:Int)<=(Z:Int):=qd;have HX:Hid (Je x d=Eu (Hd x.A d) (x.K.drop (k+1)) (x.x.length+1+(k+1))):=show Je x d=_ from by
   rw[HG.o,HD.o,J8,aV.o,<-a4,ar.o];rfl
  go_wp2;exact⟨⟨k+1,nx',qd,qm,HX,aC,by rw[a8,<-a4];exact ar,ai.e O,HBX.e O,W⟩,qp⟩
 exact tJ
def zmD{x}(h:AO x=none):AP x.name.data.toList=true/\(∀p∈x.x,Ej p=true)/\He (Dv [] x.A) x.K 0 1=none:=by
 unfold AO at h;split at h
 .rename_i b;cases a:Eu Ej x.x 1 with
  |some i=>rw[a]at h;cases h
  |none=>
   rw[a]at h;simp only at h;split at h
   .cases h
   .simp only[LO,ym]at b;exact⟨b.1,sH a,h⟩
 cases h
def zrn(x c g a f d l){q}(w)(am:Gl q w c x.x)(m:EI q w a x.A)(ao:Ih q w d x.K)(a4:x.le 1048576)(ho:Jd x.A)(W:AO x=none) :
  Ca 144 #[.agg #[.string x.name,I6 x.aq,.slice c x.x.length g,.slice a x.A.length f,.slice d x.K.length l]] w λe w'=>
   (∃i:Int,e=.returned (.tuple #[I6 i,.bool true]))/\Bw w w':=by
 obtain⟨aP,aT,aU,aV⟩:=a4;obtain⟨hg,aL,D⟩:=zmD W;obtain⟨a7,a9,aI,_,aj,_⟩:=VJ W;have aW:x.name.size<=maxLen:=yi aP Hq;have a6:¬(6:Int)<(x.x.length:Int):=qd;have a8:¬(8:Int)<(x.K.length:Int):=qd;have a5:¬(60:Int)<(x.A.length:Int):=qd;obtain⟨GP,GA,U⟩:=AK aL D aj;clear aL D aj W;go_enter func144,ntmps144;go_wp2_with (go_at_call 197;refine(LP x.name _ aW).j ?_;rintro e w' ⟨rfl,rfl⟩)
 go_loopw [35] (λi wr=>∃(k:Nat),k<=x.x.length/\i=I6 k/\Fu wr w.heap.size x c g a f d l/\Bw w wr) (λi _=>x.x.length-(intOf i).toNat)
 .exact⟨0,qd,rfl,Fu.aO _ _ _ _ _ _ _ _ _,Ar⟩
 obtain⟨k,hk,rfl,ai,G⟩:=hrel;by_cases aY:k<x.x.length
 .obtain⟨p,N⟩:=Bq aY;obtain⟨b,o,r,n,rfl,hq,c0,c1,c2,ak⟩:=(am.e G).get N;have I:=aT.2 p (yd N);have L:=λw' h=>rj p r n (q:=q) w' h (yi I.1 Hq) (I.2.j Hq (Tm.j Hq)) I.2.1;rw[GP.o p (yd N)]at L;have aR:=Ad L;clear L;go_wp2_with (go_at_call 198;refine(aR _ (ak.e Ar)).rtn λM B=>?_);have aH:Bw wr M:=Ar.thn B;go_roundw;exact⟨k+1,qd,qm,ai.e aH,G.thn aH⟩;simp[intOf];omega
 have HBX:=Ad ai;obtain⟨q0,q1,q2,q3,R⟩:=ai;go_wp2_with (go_at_call 199;refine(zpH x c g a f d l _ (m.e G) qd (aU.j Hq (Ex.j Hq)) ho U).j ?_;rintro e M ⟨⟨aF,aX,rfl,ar⟩,B⟩;have r4:=zab B R);have aG:=HBX.e B;have a0:Bw w M:=G.thn B;obtain⟨S,hS⟩:=AF (Dv [] x.A);rw[<-hS]at ar GA U⊢;have aa:S.length<=60:=by rw[U.o];exact aI
 clear q0 q1 q2 q3 R r4 HBX B hS
 go_loopw [7,59] (λnv i Y=>∃(k z:Nat),k<=x.K.length/\i=I6 k/\nv=I6 (z:Int)/\z<=60/\He S (x.K.drop k) z (k+1)=none/\Fu Y w.heap.size x c g a f d l/\Jz none Y aF S/\Bw w Y) (λ_ i _=>x.K.length-(intOf i).toNat)
 .exact⟨0,0,qd,rfl,rfl,qd,GA,aG,ar,a0⟩
 obtain⟨k,z,hk,rfl,rfl,aQ,hG,O,aq,Z⟩:=hrel;obtain⟨E,aK⟩:=An hG O;clear hG;by_cases aJ:k<x.K.length
 .obtain⟨y,H⟩:=Bq aJ;obtain⟨b,o,u,s,rfl,hq,c0,c1,c2,c3,t⟩:=(ao.e Z).get H;have aE:=aV.2 y (yd H);have C:=E.o;rw[Dx H,Tu]at C;clear O;cases D:CM S y z with
  |none=>rw[D]at C;cases C
  |some T=>
   rw[D]at C;obtain⟨HN,aN⟩:=An (show He S (x.K.drop (k+1)) T (k+1+1)=none from C) (λw h1 h2=>zlb y u s aF aX S z (q:=q) (q':=none) w h1 h2 qd (yi aE.1 Hq) aE.2 aQ);rw[D]at aN;clear C;go_wp2_with (go_at_call 200;refine(aN _ (t.e Ar) (aq.e Ar)).j ?_;rintro e w3 ⟨⟨v,rfl,aZ⟩,aS⟩;obtain⟨rfl,aM⟩:=aZ T rfl);have J:Bw wr w3:=Ar.thn aS;go_roundw;exact⟨k+1,T,qd,qm,rfl,aM,HN,aK.e J,aq.e J,Z.thn J⟩;simp[intOf];omega
 have aO:z=S.length:=by
  have h:=E.o;rw[yH qd]at h;unfold He at h;split at h
  .assumption
  cases h
 obtain⟨q0,q1,q2,q3,R⟩:=O;go_wp2;exact bodyPost_ret (v:=.tuple #[I6 ((x.K.length:Int)+1),.bool true]) (by simp[results,results144,go_sem,aO]) rfl ⟨⟨_,rfl⟩,Z⟩
def DD:List Cn->Ab->Am
 |[],T=>[T]
 |c::cs,T=>if c.neg=true then(if c.J.any (λf=>c.y.all (AA T f))=true then [] else DD cs T) else c.J.flatMap (λf=>if c.y.all (AA T f)=true then DD cs (T++[f]) else [])
def Z7{c cs T}(h:c.neg=true):DD (c::cs) T=if c.J.any (λf=>c.y.all (AA T f))=true then [] else DD cs T:=by
 simp only[DD];rw[if_pos h]
def d_{c cs T}(h:c.neg=false):DD (c::cs) T=c.J.flatMap (λf=>if c.y.all (AA T f)=true then DD cs (T++[f]) else []):=by grind[DD,AA]
def zl2{α β:Type}(p q:α->Bool)(g:α->List β):∀l:List α,(l.filter p).flatMap (λx=>if q x=true then g x else [])=(l.filter (λx=>p x&&q x)).flatMap g:=by intro l;induction l<;>grind
def nH{fs}:∀(cs:List Cn)(O:List Cp),cs.length=O.length->(∀(k:Nat)(c:Cn)(d:Cp),cs[k]?=some c->O[k]?=some d->Ln fs c d)->∀T,DD cs T=EY O fs T
 |[],[],_,_,_=>rfl
 |[],_::_,h,_,_=>by simp at h
 |_::_,[],h,_,_=>by simp at h
 |c::cs,d::O,hl,he,T=>by
  obtain⟨g,j,f,i,b⟩:=he 0 c d rfl rfl
  have ih:=nH cs O NB (λk e a hc hd=>he (k+1) e a NA qz)
  simp only[DD,EY]
  rw[g,f,b,zmx,zl2]
  simp only[ih]
  rfl
def Ff:List Cn->Ab->Prop
 |[],_=>True
 |c::cs,T=>c.Y=T.length/\(c.neg=false->T.length<3)/\(∀f∈c.J,∀t∈c.y,t.ah T f)/\(if c.neg=true then Ff cs T else∀f∈c.J,c.y.all (AA T f)=true->Ff cs (T++[f]))
def QH.snoc{T vs f}(h:QH T vs):QH (T++[f]) vs:=λv hv=>by
 obtain⟨g,a,b⟩:=h v hv;exact⟨g,by rw[yr (yf.1 a).1];exact a,b⟩
def gE{fs}:∀(b:Bi)(vs:AY)(T:Ab)(cs:List Cn),JQ b vs T.length->QH T vs->T.length+Ag b<=3->cs.length=(CO b vs T.length).length->(∀(k:Nat)(c:Cn)(d:Cp),cs[k]?=some c->(CO b vs T.length)[k]?=some d->Ln fs c d)->Ff cs T
 |[],_,_,[],_,_,_,_,_=>trivial
 |[],_,_,_::_,_,_,_,h,_=>by simp[CO]at h
 |_::_,_,_,[],_,_,_,h,_=>by simp[CO]at h
 |p::b,vs,T,c::cs,hk,hV,hn,hl,he=>by
  obtain⟨w,_,O⟩:=hk
  simp only[CO]at hl he
  obtain⟨n,u,v,z,r⟩:=he 0 c _ rfl rfl
  simp only at n u v z r
  have j:∀f∈c.J,∀t∈c.y,t.ah T f:=λf l=>by
   rw[r]at l
   rw[v]
   exact zr2 hV w (yh.1 l).2
  have m:∀(k:Nat)(q:Cn)(o:Cp),cs[k]?=some q->(if p.neg=true then CO b vs T.length else CO b (Dw vs p.s T.length p.s.length) (T.length+1))[k]?=some o->Ln fs q o:=λk q o hc hd=>he (k+1) q o NA qz
  have i:cs.length=(if p.neg=true then CO b vs T.length else CO b (Dw vs p.s T.length p.s.length) (T.length+1)).length:=NB
  by_cases a:p.neg=true
  .have A:Ag (p::b)=Ag b:=by simp[Ag,La,a]
   rw[if_pos a]at O i m
   refine⟨u,λhc=>?_,j,?_⟩
   .rw[n,a]at hc
    cases hc
   rw[if_pos (by rw[n];exact a)]
   exact gE b vs T cs O hV qd i m
  have A:Ag (p::b)=Ag b+1:=by simp[Ag,La,a]
  rw[if_neg a]at O i m
  refine⟨u,λ_=>qd,j,?_⟩
  rw[if_neg (by rw[n];exact a)]
  intro f l _
  rw[r]at l
  have x:=(yh.1 l).2
  have e:(T++[f]).length=T.length+1:=qf
  refine gE b _ (T++[f]) cs (by rw[e];exact O) (Zp hV.snoc (g:=f) qf (rr w x) _ Bg) (by rw[e];omega) (by rw[e];exact i) (by rw[e];exact m)
def TK{n m:Nat}(h:n+1+1<m):n+1+1<m/\n+1<m/\n<m:=qd
def xC(x T):(CW x (uv T)).getD (.agg #[])=.agg #[]:=by
 cases h:CW x (uv T) with
 |none=>rfl
 |some v=>
  unfold CW uv at h;obtain⟨y,a,rfl⟩:=Ye.1 h;obtain⟨z,_,rfl⟩:=yv.1 (K3 a);rfl
def BD.aA{w w' b r g L a}(h:BD w b r L a)(d:BU (some g) w w')(i:CK w w')(c:g≠b)(f:g≠r):BD w' b r L a:=h.aD (S:=λx=>x=g) (AM.of d rfl) i (λe=>c e.z) (λe=>f e.z)
def zqJ(cb nb wb r T todo M x w)(h:CS w cb nb wb T M)(hR:BD w nb r (uv T) todo)(hr:r≠wb)(hx:A_ w x)(hk:-9<=AC x M/\AC x M<=9) :
  Ca 211 #[Pn cb,Bh x] w λe w'=>e=.returned (.tuple #[])/\CS w' cb nb wb (T.filter (λy=>decide (y≠x))) (Gr x (-1) M)/\BD w' nb r (uv (T.filter (λy=>decide (y≠x)))) (todo.filter (λy=>decide (y≠x)))/\AM (λg=>g=nb∨g=wb) w w':=by
 exact vA
def zrj(cb nb wb T M x w)(h:CS w cb nb wb T M)(i:A_ w x) :
  Ca 212 #[Pn cb,Bh x] w λe w'=>e=.returned (.bool (decide (x∈T)))/\Bw w w':=by
 obtain⟨f,l⟩:=An h i;obtain⟨x0,x1,b⟩:=x;obtain⟨d,hd⟩:=AF (decide ((x0,x1,b)∈T));rw[<-hd];have k:=Ad hd;clear h i hd;go_enter func212,ntmps212;unfold Bh;go_upto_region 1 with fail;refine BF ?_;intro a O g;have s:At a cb 0 (.map (some nb)):=Bf (L:=[_,_]) (f.e O).q (j:=0) rfl;obtain⟨y,z,t2⟩:=Ea g rfl;have c:∀u,Bw w u->(Instr.lookup 260 (.map (some nb)) (.agg #[.pointer x0,.pointer x1,.pointer b]) true).run prog u=.ok (.tuple #[.agg #[],.bool d]) u:=λu hu=>by
  have h:=PE tys Gc (kF u) (f.e hu).now (l.e hu) true;have m:(CW (x0,x1,b) (uv T)).isSome=decide ((x0,x1,b)∈T):=by
   rw[iW,decide_eq_true_eq,PH,S1]
  rw[m,if_pos rfl,<-k.o,xC]at h;exact h
 have n:cb<a.heap.size:=Ap (f.e O).q;have v:w.heap.size<a.heap.size:=Ap g;have r:=c a.drew O.drew;have t:=λo=>c (a.drew.alloc o) (O.drew.alloc qe o);have A:=λo=>c (a.alloc o).drew (O.alloc qd o).drew;have p:=Ad O;go_wp2;go_region;go_wp2;go_ret;exact⟨rfl,(p.alloc qd _).drew⟩
end Go.Proofs.YtikojfajahnhgaaGreat
