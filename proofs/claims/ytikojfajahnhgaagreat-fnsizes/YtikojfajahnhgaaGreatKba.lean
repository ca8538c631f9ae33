import Derived.Test.YtikojfajahnhgaaGreatKal
import Derived.Test.YtikojfajahnhgaaGreatKax
set_option linter.all false
set_option maxHeartbeats 3200000
set_option maxRecDepth 100000
namespace Go.Proofs.YtikojfajahnhgaaGreat
attribute [local simp] At I6 Pn mzI
attribute [local go_sem] At I6 Pn
open Go.RowKit Go.Proofs.Tryz
attribute [local go_sem ↓] wp_at_zero wp_at_succ
def Af{p}(h:p):Hid p:=h
def DQ(w:World)(g:Nat):Prop:=∃(a:Option Addr)(n c i:Nat),w.heap[g]?=some (.cells #[.slice a n c,.int .i64 (i:Int)] 73 (0,0))/\i<=n/\n<=1048576 /\
 ∀j,j<n->∃(b o:Nat)(u:Nat),a=some ⟨b,o,none⟩/\b<g/\u<256/\w.cell? ⟨b,o+j,none⟩=some (.int .u8 (u:Int))
def DQ.C{w w' g}(h:DQ w g)(d:Bw w w'):DQ w' g:=by
 obtain⟨a,n,c,i,e,f,m,l⟩:=h;refine⟨a,n,c,i,(d.block g (Ak e)).c e,f,m,λj hj=>?_⟩;obtain⟨b,o,u,r,p,k,q⟩:=l j hj;exact⟨b,o,u,r,p,k,zab d q⟩
def DQ.lt{w g}(h:DQ w g):g<w.heap.size:=by
 obtain⟨a,n,c,i,b,_⟩:=h;exact Ak b
def DQ.bW{w w' g}(h:DQ w g)(d:Below (g+1) w w'):DQ w' g:=by
 obtain⟨a,n,c,i,m,e,l,k⟩:=h;refine⟨a,n,c,i,(d.block g qd).c m,e,l,λj hj=>?_⟩;obtain⟨b,o,u,r,p,f,q⟩:=k j hj;refine⟨b,o,u,r,p,f,?_⟩;rw[<-q];exact yR (w:=w) (d.block b qd)
def Rs(g:Nat)(w w':World):Prop:=Bg (some g) w w'/\DQ w' g
def Rs.c{g u v w}(h:Rs g u v)(k:Rs g v w):Rs g u w:=⟨h.1.c k.1,k.2⟩
def Rs.C{g u v w}(h:Rs g u v)(a:Bw v w):Rs g u w:=⟨h.1.c (Bg.m a),h.2.C a⟩
def Rs.refl{g w}(h:DQ w g):Rs g w w:=⟨Bg.refl _ _,h⟩
def Rs.of{g w w'}(h:DQ w g)(a:Bw w w'):Rs g w w':=(Rs.refl h).C a
def Fc(g w)(h:DQ w g):Ca 81 #[Pn g] w λe w'=>∃c:Nat,c<256/\e=.returned (I6 (c:Int))/\Rs g w w':=by
 have H:=Af h;obtain⟨a,n,c,i,h1,E,r,d⟩:=h;have C:At w g 0 (.slice a n c):=T_;have B:At w g 1 (I6 (i:Int)):=T_;have A:w.frozen? ⟨g,1,none⟩=false:=by simp[World.frozen?,h1]
 have G:g<w.heap.size:=Ak h1;obtain⟨v,k⟩:=Ah h1 d;clear h1 d;by_cases O:i<n
 .obtain⟨b,o,u,rfl,x,hu,D⟩:=k.o i O;have y:((i:Nat):Int)<((n:Nat):Int):=qd;have z:(0:Int)<=(i:Int):=qd;go_enter func81,ntmps81;go_wp2;go_region;go_wp2;go_region;go_wp2;go_ret;refine⟨u,hu,rfl,?_,?_⟩
  .exact(Bg.set _).c (Bg.m An.drew.drew)
  refine⟨some ⟨b,o,none⟩,n,c,i+1,?_,qd,r,λj hj=>?_⟩
  .have:=Co (w:=w) (g:=g) (i:=1) v.o (I6 ((i:Int)+1));exact this
  obtain⟨p,o',t,l,f,q,s⟩:=k.o j hj;refine⟨p,o',t,l,f,q,?_⟩;rw[<-s];exact yR (w:=w) (yE _ _ _ _ (Nat.ne_of_lt f))
 go_enter func81,ntmps81;go_wp2;go_region;go_wp2;go_ret;exact⟨0,qd,rfl,Rs.of H.o An.drew⟩
def Dd{g b w w' o}(h:Rs g w w')(d:w.heap[b]?=some o)(a:b≠g):w'.heap[b]?=some o:=
 (h.1.block b (Ak d) (λe=>a Uf)).c d
def MQ{g b o w w' v}(h:Rs g w w')(c:w.cell? ⟨b,o,none⟩=some v)(a:b≠g):w'.cell? ⟨b,o,none⟩=some v:=by
 rw[<-c];exact yR (w:=w) (h.1.block b (yO w ⟨b,o,none⟩ c) (λe=>a Uf))
def Uv(s:ByteArray):Prop:=s.size<=20/\DH s=true
def Uu(s:ByteArray):Prop:=s.size<=20/\Aq s.data.toList=true
def Xu(c:Nat)(w):Ca 194 #[I6 (c:Int)] w λe w'=>∃s:ByteArray,Uv s/\e=.returned (.string s)/\Bw w w':=by
 have a:c%3=0∨c%3=1∨c%3=2:=qd;rcases a with h|h|h
 all_goals
  go_enter func194,ntmps194;go_wp2;go_ret;exact⟨_,⟨qh,qh⟩,rfl,Aj⟩
def zo2(c:Nat)(w):Ca 244 #[I6 (c:Int)] w λe w'=>∃s:ByteArray,Uu s/\e=.returned (.string s)/\Bw w w':=by
 have a:c%3=0∨c%3=1∨c%3=2:=qd;rcases a with h|h|h
 all_goals
  go_enter func244,ntmps244;go_wp2;go_ret;exact⟨_,⟨qh,qh⟩,rfl,Aj⟩
def vV(v:V):Value:=.agg #[.int .i64 v.u,.int .i64 v.num,.string v.J]
def kh(s w):Ca 148 #[.string s] w λe w'=>e=.returned (vV (1,0,s))/\Bw w w':=by
 go_enter func148,ntmps148;go_wp2;exact bodyPost_ret (v:=vV (1,0,s)) (by simp[results,results148,go_sem,vV,V.u,V.num,V.J]) rfl ⟨rfl,Aj⟩
def lg(n w):Ca 203 #[I6 n] w λe w'=>e=.returned (vV (0,n,⟨#[]⟩))/\Bw w w':=by
 go_enter func203,ntmps203;go_wp2;exact bodyPost_ret (v:=vV (0,n,⟨#[]⟩)) (by simp[results,results203,go_sem,vV,V.u,V.num,V.J]) rfl ⟨rfl,Aj⟩
def Gp(v:V):Prop:=v.J.size<=20/\(-9223372036854775808<=v.u/\v.u<=9223372036854775807) /\ -9223372036854775808<=v.num/\v.num<=9223372036854775807/\Bf v=true
def uH(s)(h:s.size<=20)(a:Bf (1,0,s)=true):Gp (1,0,s):=⟨h,⟨show(_:Int)<=1 by decide,show(1:Int)<=_ by decide⟩,show(_:Int)<=0 by decide,show(0:Int)<=_ by decide,a⟩
def Vc(n)(b:-9223372036854775808<=n)(a:n<=9223372036854775807):Gp (0,n,⟨#[]⟩):=⟨yk 20,⟨show(_:Int)<=0 by decide,show(0:Int)<=_ by decide⟩,b,a,vS n⟩
def PT:Gp (0,0,⟨#[]⟩):=Vc 0 qh qh
def Iq{w:World}{b t v}(h:w.heap[b]?=some (.cells (V.cells v).toArray t (0,0))):At w b 0 (I6 v.u)/\At w b 1 (I6 v.num)/\At w b 2 (.string v.J):=by
 refine⟨?_,?_,?_⟩<;>simp[World.cell?,h,V.cells]
def MN:(prog.info? 187).map (·.size)=some 3:=qg
def V.cells_one(v):∀u∈V.cells v,u.oneCell'=true:=by
 intro u hu;simp[V.cells]at hu;rcases hu with rfl|rfl|rfl<;>rfl
def Rs.H{g b u v w}(h:Rs g u v)(a:Turned v w b)(j:u.heap.size<=b)(i:g<u.heap.size):Rs g u w:=by
 refine⟨⟨h.1.rest.c (a.d (yk _)),λk f e=>(a.block k qd).c (h.1.block k f e)⟩,?_⟩;exact h.2.bW (a.d qd)
def NI{w:World}{b t v}(h:Hid (w.heap[b]?=some (.cells (V.cells v).toArray t (0,0))))(hv:Gp v):∃v:V,Gp v/\At w b 0 (I6 v.u)/\At w b 1 (I6 v.num)/\At w b 2 (.string v.J):=⟨v,hv,Iq h.o⟩
def QD(g w)(h:DQ w g):Ca 147 #[Pn g] w λe w'=>∃v:V,Gp v/\e=.returned (vV v)/\Rs g w w':=by
 have H:=Af h;have m:=h.lt;clear h;have t:=Af (λo=>(H.o.C (An.alloc AH o)));go_enter func147,ntmps147;go_wp2_with fail;refine(Fc g _ (t.o _)).j ?_;rintro e q ⟨c,A,rfl,n⟩;obtain⟨k,p⟩:=Ah (Dd n (heap_alloc_new _ _) qd) (((Rs.of H.o Aj).c n));have f:w.heap.size<q.heap.size:=Ak k.o;clear n t;have l:=Af (λo=>An.alloc AH o:∀o,Bw q (q.alloc o));by_cases y:c%3=0
 .have b:c/3%3=0∨c/3%3=1∨c/3%3=2:=qd;rcases b with b|b|b
  all_goals
   go_wp2_with fail;refine(kh _ _).rtn λs d=>?_;have a:=Af ((l.o _).c (d.j (l.o _).size));have r:=a.o.size;clear d;go_wp2_with (first|(refine C7 qi 187 (.tmp 2) (.tmp 16) qi w.heap.size (V.cells (1,0,_)) qi qi _ 187 ((a.o.block _ f).c k.o) qi MN (V.cells_one _) ?_;intro u O i;obtain⟨v,hv,f0,f1,f2⟩:=NI O (uH _ (by first|decide|exact yk 20) qh);clear O)|fail);exact bodyPost_ret (v:=vV v) Z1 rfl ⟨v,hv,rfl,(p.o.C a.o).H i.o AH m⟩
 have z:¬(c:Int)%3=0:=qd;by_cases B:250<=c
 .have x:(250:Int)<=(c:Int):=qd;have b:c%4=1∨c%4=2∨c%4=3:=qd;rcases b with b|b|b
  all_goals
   go_wp2_with fail;refine(lg _ _).rtn λs d=>?_;have a:=Af ((l.o _).c (d.j (l.o _).size));have r:=a.o.size;clear d;go_wp2_with (first|(refine C7 qi 187 (.tmp 2) (.tmp 25) qi w.heap.size (V.cells (0,_,_)) qi qi _ 187 ((a.o.block _ f).c k.o) qi MN (V.cells_one _) ?_;intro u O i;obtain⟨v,hv,f0,f1,f2⟩:=NI O (Vc _ Ub Ub);clear O)|fail);exact bodyPost_ret (v:=vV v) Z1 rfl ⟨v,hv,rfl,(p.o.C a.o).H i.o AH m⟩
 have x:¬(250:Int)<=(c:Int):=qd;go_wp2_with fail;refine(lg _ _).rtn λs d=>?_
 .have a:=Af d;have r:=a.o.size;clear d;go_wp2_with (first|(refine C7 qi 187 (.tmp 2) (.tmp 30) qi w.heap.size (V.cells (0,_,_)) qi qi _ 187 ((a.o.block _ f).c k.o) qi MN (V.cells_one _) ?_;intro u O i;obtain⟨v,hv,f0,f1,f2⟩:=NI O (Vc _ Ub Ub);clear O)|fail);exact bodyPost_ret (v:=vV v) Z1 rfl ⟨v,hv,rfl,(p.o.C a.o).H i.o AH m⟩
def GK(K:List ByteArray)(s:ByteArray):Prop:=s.size<=20/\Aq s.data.toList=true/\s∈K
def LW(K:List ByteArray)(w:World)(g:Nat)(a:Option Addr)(n:Nat):Prop:=n<=1048576/\∀j,j<n->∃(b o:Nat)(s:ByteArray),a=some ⟨b,o,none⟩/\g<b/\GK K s/\w.cell? ⟨b,o+j,none⟩=some (.string s)
def LW.rs{K w w' g a n}(h:LW K w g a n)(c:Rs g w w'):LW K w' g a n:=by
 refine⟨h.1,λj hj=>?_⟩;obtain⟨b,o,s,i,d,f,e⟩:=h.2 j hj;exact⟨b,o,s,i,d,f,MQ c e qd⟩
def LW.C{K w w' g a n}(h:LW K w g a n)(f:Bw w w'):LW K w' g a n:=by
 refine⟨h.1,λj hj=>?_⟩;obtain⟨b,o,s,i,c,e,d⟩:=h.2 j hj;exact⟨b,o,s,i,c,e,zab f d⟩
def Fu(t:Tm):List Value:=[.int .i64 t.u,.int .i64 t.op,.string t.A,.int .i64 t.val.u,.int .i64 t.val.num,.string t.val.J]
def Mm(t:Tm):Value:=.agg (Fu t).toArray
def NP(t:Tm):Prop:=t.A.size<=20/\Gp t.val/\CY t=true
def La(K:List ByteArray)(t:Tm):Prop:=NP t/\(Dm t=true->Bu t.A K=true)
def sF(K):La K ⟨0,0,⟨#[]⟩,(0,0,⟨#[]⟩)⟩:=⟨⟨yk 20,PT,by simp[CY,JL,Qt]⟩,λh=>by simp[Dm]at h⟩
def xx(K){v}(hv:Gp v):La K ⟨1,0,⟨#[]⟩,v⟩:=⟨⟨yk 20,hv,by simp[CY,JL,hv.2.2.2.2]⟩,λh=>by simp[Dm]at h⟩
def tH(K){s}(a:Uu s):La K ⟨2,0,s,(0,0,⟨#[]⟩)⟩:=⟨⟨a.1,PT,by simp[CY,a.2,Qt]⟩,λh=>by simp[Dm]at h⟩
def vX{K s b}(d:1<=b)(c:b<=6)(a:GK K s):La K ⟨3,b,s,(0,0,⟨#[]⟩)⟩:=⟨⟨a.1,PT,by simp[CY,Md,a.2.1,Qt,d,c]⟩,λ_=>Wx.2 ⟨s,a.2.2,qe⟩⟩
def zn0(K){v a}(c:1<=a)(b:a<=6)(hv:Gp v):La K ⟨3,a,⟨#[]⟩,v⟩:=⟨⟨yk 20,hv,by simp[CY,Md,JL,hv.2.2.2.2,c,b]⟩,λh=>by simp[Dm,JL]at h⟩
def OS(t):∀u∈Fu t,u.oneCell'=true:=by
 intro u hu;simp[Fu]at hu;rcases hu with rfl|rfl|rfl|rfl|rfl|rfl<;>rfl
def P_:(prog.info? 189).map (·.size)=some 6:=qg
def ck{w:World}{b ty t}(h:w.heap[b]?=some (.cells (Fu t).toArray ty (0,0))):At w b 0 (I6 t.u)/\At w b 1 (I6 t.op)/\At w b 2 (.string t.A)/\At w b 3 (I6 t.val.u)/\At w b 4 (I6 t.val.num)/\At w b 5 (.string t.val.J):=by
 refine⟨?_,?_,?_,?_,?_,?_⟩<;>simp[World.cell?,h,Fu]
def Jq{K}{w:World}{b ty t}(h:Hid (w.heap[b]?=some (.cells (Fu t).toArray ty (0,0))))(hv:La K t):∃t:Tm,La K t/\At w b 0 (I6 t.u)/\At w b 1 (I6 t.op)/\At w b 2 (.string t.A)/\At w b 3 (I6 t.val.u)/\At w b 4 (I6 t.val.num)/\At w b 5 (.string t.val.J):=⟨t,hv,ck h.o⟩
def DI{w:World}{b ty x0 x1 c d a O}(h:w.heap[b]?=some (.cells #[x0,x1,c,d,a,O] ty (0,0))):At w b 0 x0/\At w b 1 x1/\At w b 2 c/\At w b 3 d/\At w b 4 a/\At w b 5 O:=by
 refine⟨?_,?_,?_,?_,?_,?_⟩<;>simp[World.cell?,h]
def Cd{w:World}{b ty c}(h:w.heap[b]?=some (.cells c ty (0,0)))(j):w.frozen? ⟨b,j,none⟩=false:=by
 simp[World.frozen?,h]
def Rs.ac{g b o u v x}(h:Rs g u v)(f:u.heap.size<=b)(e:g<u.heap.size):Rs g u (v.setCell ⟨b,o,none⟩ x):=
 ⟨⟨h.1.rest.setCell (yk _) _,λk d a=>(yE _ _ _ _ qf).c (h.1.block k d a)⟩,h.2.bW (An.setCell qf _)⟩
def nj{P:Prop}(h:P:=by exact bodyPost_ret (v:=Mm t) (by simp[results,results195,go_sem,f0,f1,f2,f3,f4,f5,Mm,Fu]) rfl ⟨t,ht,rfl,(hR.o.C hB2.o).H ai.o AH ak⟩):P:=h
def zis(K g a n cp w)(h:DQ w g)(y:LW K w g a n):Ca 195 #[Pn g,.slice a n cp] w λe w'=>∃t:Tm,La K t/\e=.returned (Mm t)/\Rs g w w':=by
 obtain⟨H,R⟩:=Ah h y;have ak:=h.lt;clear h y;have N:=Af (λo=>(H.o.C (An.alloc AH o)));go_enter func195,ntmps195;go_wp2_with fail;refine(Fc g _ (N.o _)).j ?_;rintro e f ⟨c,hc,rfl,J⟩;obtain⟨m,hR⟩:=Ah (Dd J (heap_alloc_new _ _) qd) (((Rs.of H.o Aj).c J));have l:w.heap.size<f.heap.size:=Ak m.o;have B:=Af (R.o.rs hR.o);clear J N R;have p:=Af (λo=>An.alloc AH o:∀o,Bw f (f.alloc o));have q:c%8=0∨(c%8=1∨c%8=2)∨c%8=3∨(4<=c%8):=qd;rcases q with q|q|q|q
 .have hB2:=Af (yX f.heap.size f);go_wp2_with (first|(refine C7 qi 189 (.tmp 4) (.tmp 13) qi w.heap.size (Fu ⟨0,0,⟨#[]⟩,(0,0,⟨#[]⟩)⟩) qi qi _ 189 ((hB2.o.block _ l).c m.o) qi P_ (OS _) ?_;intro z d ai;obtain⟨t,ht,f0,f1,f2,f3,f4,f5⟩:=Jq (K:=K) d (sF K);clear d)|fail);exact nj
 .rcases q with q|q
  all_goals
   go_wp2_with fail;refine(QD g _ hR.o.2).j ?_;rintro e r ⟨v,hv,rfl,O⟩;obtain⟨u,x⟩:=Ah (Dd O m.o qd) (hR.o.c O);have I:=O.1.rest.size;clear O m hR;unfold vV;go_wp2_with (first|(refine C7 qi 189 (.tmp 4) (.tmp 19) qi w.heap.size (Fu ⟨1,0,⟨#[]⟩,v⟩) qi qi _ 189 (u.o) qi P_ (OS _) ?_;intro z d ai;obtain⟨t,ht,f0,f1,f2,f3,f4,f5⟩:=Jq (K:=K) d (xx K hv);clear d)|fail);exact bodyPost_ret (v:=Mm t) qO rfl ⟨t,ht,rfl,x.o.H ai.o AH ak⟩
 .have A:=Af (λo=>hR.o.2.C (p.o o));by_cases aE:0<n/\100<=c
  .obtain⟨G,aF⟩:=aE;have aA:(0:Int)<(n:Int):=qd;have aw:(100:Int)<=(c:Int):=qd;go_wp2_with fail;refine(Fc g _ (A.o _)).j ?_;rintro e r ⟨L,aN,rfl,O⟩;obtain⟨x,i,u,M⟩:=Bn (((hR.o.C (p.o _)).c O)) (Dd O (heap_alloc_new _ _) qd) (Dd O (((p.o _).block _ l).c m.o) qd) ((B.o.C (p.o _)).rs O);have I:f.heap.size<r.heap.size:=Ak i.o;obtain⟨k,D⟩:∃k,k=L%n:=⟨_,rfl⟩
   have W:k<n:=by rw[D];exact Wz _ G
   have aH:(L:Int)%(n:Int)=(k:Int):=by rw[D];omega
   have aK:(k:Int)<(n:Int):=qd;have aL:(0:Int)<=(k:Int):=qd;obtain⟨b,o,s,rfl,aO,aB,aP⟩:=M.o.2 k W;obtain⟨T,t1,t2,t3,Z,U⟩:=DI i.o;have z2:=Cd i.o 2;clear O D i M m hR p A B;go_wp2_with (first|(refine C7 qi 189 (.tmp 4) (.tmp 46) qi w.heap.size (Fu ⟨3,_,s,(0,0,⟨#[]⟩)⟩) qi qi _ 189 ((yE _ _ _ _ qf).c u.o) qi P_ (OS _) ?_;intro z d ai;obtain⟨t,ht,f0,f1,f2,f3,f4,f5⟩:=Jq (K:=K) d (vX qd qd aB);clear d)|fail);exact bodyPost_ret (v:=Mm t) qO rfl ⟨t,ht,rfl,(x.o.ac (b:=f.heap.size) qd ak).H ai.o AH ak⟩
  by_cases G:n=0
  focus
   subst G
  rotate_left
  focus
   have aA:(0:Int)<(n:Int):=qd;have aw:¬(100:Int)<=(c:Int):=qd
  rotate_left
  all_goals
   go_wp2_with fail;refine(QD g _ (A.o _)).j ?_;rintro e r ⟨v,hv,rfl,O⟩;obtain⟨x,i,u⟩:=AA (((hR.o.C (p.o _)).c O)) (Dd O (heap_alloc_new _ _) qd) (Dd O (((p.o _).block _ l).c m.o) qd);have I:f.heap.size<r.heap.size:=Ak i.o;obtain⟨T,t1,t2,t3,Z,U⟩:=DI i.o;have z3:=Cd i.o 3;have z4:=Cd i.o 4;have z5:=Cd i.o 5;clear O i m hR p A B;unfold vV;go_wp2_with (first|(refine C7 qi 189 (.tmp 4) (.tmp 46) qi w.heap.size (Fu ⟨3,_,⟨#[]⟩,v⟩) qi qi _ 189 ((((yE _ _ _ _ qf).c (yE _ _ _ _ qf)).c (yE _ _ _ _ qf)).c u.o) qi P_ (OS _) ?_;intro z d ai;obtain⟨t,ht,f0,f1,f2,f3,f4,f5⟩:=Jq (K:=K) d (zn0 K qd qd hv);clear d)|fail);exact bodyPost_ret (v:=Mm t) qO rfl ⟨t,ht,rfl,(((x.o.ac (b:=f.heap.size) qd ak).ac (b:=f.heap.size) qd ak).ac (b:=f.heap.size) qd ak).H ai.o AH ak⟩
 have aI:¬(c:Int)%8=0:=qd;have aJ:¬(c:Int)%8=1:=qd;have aM:¬(c:Int)%8=2:=qd;have aG:¬(c:Int)%8=3:=qd;have Y:=Af (show((c:Int)/8)=((c/8:Nat):Int) by omega);go_wp2_with fail;rw[Y.o];refine(zo2 (c/8) _).j ?_;rintro e r ⟨s,y,rfl,E⟩;have hB2:=Af E;have I:=E.size;clear E;go_wp2_with (first|(refine C7 qi 189 (.tmp 4) (.tmp 50) qi w.heap.size (Fu ⟨2,0,s,(0,0,⟨#[]⟩)⟩) qi qi _ 189 ((hB2.o.block _ l).c m.o) qi P_ (OS _) ?_;intro z d ai;obtain⟨t,ht,f0,f1,f2,f3,f4,f5⟩:=Jq (K:=K) d (tH K y);clear d)|fail);exact nj
end Go.Proofs.YtikojfajahnhgaaGreat
