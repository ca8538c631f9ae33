import Derived.Test.YtikojfajahnhgaaGreatKbw
set_option linter.all false
set_option maxHeartbeats 3200000
set_option maxRecDepth 100000
namespace Go.Proofs.YtikojfajahnhgaaGreat
attribute [local simp] At I6 Pn mzI
attribute [local go_sem] At I6 Pn
open Go.RowKit Go.Proofs.Tryz
attribute [local go_sem ↓] wp_at_zero wp_at_succ
def zlc(g v w)(h:DQ w g):Ca 82 #[Pn g,v,I6 0] w λe w'=>e=.returned (.slice none 0 0)/\Rs g w w':=by
 go_enter func82,ntmps82;go_wp2_with fail;refine(Fc g w h).j ?_;rintro e b ⟨d,f,rfl,O⟩;go_wp2_with fail
 go_loopw [7,9] (λc a wr=>c=.slice none 0 0/\a=I6 0/\wr=b) (λ_ _ _=>0)
 case atStart=>exact⟨rfl,qe,rfl⟩
 case round=>
  obtain⟨rfl,rfl,rfl⟩:=hrel;go_wp2_with fail;go_ret;exact⟨rfl,O⟩
def I_(nx cp:Int)(sg:Bool):Value:=.agg #[.slice none 0 0,.int .i64 nx,.int .i64 cp,.bool sg]
def SB(w:World)(b:Nat)(nx cp:Int)(sg:Bool):Prop:=w.heap[b]?=some (.cells #[.slice none 0 0,.int .i64 nx,.int .i64 cp,.bool sg] 27 (0,0))
def SB.G{w b nx cp sg}(h:SB w b nx cp sg):(At w b 0 (.slice none 0 0)/\At w b 1 (I6 nx)/\At w b 2 (I6 cp)/\At w b 3 (.bool sg))/\(∀j,w.frozen? ⟨b,j,none⟩=false)/\b<w.heap.size:=by
 unfold SB at h;exact Zt
def xt{P:World->Prop}{w b nx cp v sg}(O:SB w b nx cp sg)(h:∀wt,SB wt b nx v sg->Turned w wt b->P wt):P (w.setCell ⟨b,2,none⟩ (I6 v)):=
 h _ (by have:=Co (i:=2) O (I6 v);simpa[SB] using this) (Turned.setCells [I6 v] 2 w b)
def vf{P:World->Prop}{w b nx cp v sg}(O:SB w b nx cp sg)(h:∀wt,SB wt b v cp sg->Turned w wt b->P wt):P (w.setCell ⟨b,1,none⟩ (I6 v)):=
 h _ (by have:=Co (i:=1) O (I6 v);simpa[SB] using this) (Turned.setCells [I6 v] 1 w b)
def RO.H{w w' base d a c M nx cp sg}(h:RO w base a c M)(b:Turned w w' d)(hd:SB w d nx cp sg):RO w' base a c M:=h.same (Bc.kept (d:=d) (λk e _=>b.block k e) hd qh)
def Jr{g w v x0 x1 b c}(h:Rs g w v)(a:g<w.heap.size):Rs g w ((((v.drew.setCell ⟨w.heap.size,0,none⟩ x0).setCell ⟨w.heap.size,1,none⟩ x1).setCell ⟨w.heap.size,2,none⟩ b).setCell ⟨w.heap.size,3,none⟩ c):=
 ((((h.C An.drew).ac AH a).ac AH a).ac AH a).ac AH a
def Jz{v base d a c M nx cp sg x0 x1 b e}(h:RO v base a c M)(hd:SB v d nx cp sg):RO ((((v.setCell ⟨d,0,none⟩ x0).setCell ⟨d,1,none⟩ x1).setCell ⟨d,2,none⟩ b).setCell ⟨d,3,none⟩ e) base a c M:=h.same (Bc.kept (d:=d) (λk f _=>(Turned.setCells [x0,x1,b,e] 0 v d).block k f) hd qh)
def Zq{P:Prop}(h:P:=by exact Jz (v:=World.drew _) (aw.o.C (yX _ _).drew) ah.o):P:=h
def zkI(g w)(h:DQ w g):Ca 34 #[.pointer (some ⟨g,0,none⟩),.int .i64 0] w λe w'=>∃a c M nx cp sg,e=.returned (.tuple #[.slice a (List.length M) c,I_ nx cp sg])/\1<=M.length/\M.length<=8/\JA M/\RO w' w.heap.size a c M/\Rs g w w':=by
 have H:=Af h;have f:=h.lt;clear h;have HA:=Er w;have aO:=Af (λo=>H.o.C (HA.o o));go_enter func34,ntmps34;go_wp2_with fail;refine(zhh g 3 _ (aO.o _) qd qd).j ?_;rintro e W ⟨a,c,M,rfl,N,aU,aG,aS,aE⟩;have T:M.length<=8:=qd;have L:=Af aG;clear aG aU;obtain⟨Y,aQ,R1⟩:=AA (show SB W w.heap.size 0 0 false from Dd aE (heap_alloc_new _ _) qd) (aS.lower (base':=w.heap.size) qe) ((Rs.of H.o (HA.o _)).c aE);have aa:w.heap.size<W.heap.size:=Ak Y.o;clear aS aE HA aO H;go_wp2_with fail;refine(Fc g W R1.o.2).j ?_;rintro e J ⟨n2,aW,rfl,D⟩;obtain⟨aJ,aT,R2⟩:=AA (show SB J w.heap.size 0 0 false from Dd D Y.o qd) (aQ.o.rs D f) (R1.o.c D);have aX:=D.1.rest.size;clear D Y aQ R1;go_upto_region 3 with fail;refine Be ?_;intro Z E ax;have S3:=Af (show SB Z J.heap.size _ _ _ from ax);obtain⟨aL,aM,R3⟩:=AA (show SB Z w.heap.size 0 0 false from(E.block _ qd).c aJ.o) (aT.o.C E) (R2.o.C E);have aZ:=E.size;clear E ax aJ aT R2;go_wp2_with fail;refine(zlc g _ Z R3.o.2).j ?_;rintro e w4 ⟨rfl,A⟩;have S4:=Af (show SB w4 J.heap.size _ _ _ from Dd A S3.o qd);obtain⟨aK,aH,K⟩:=AA (show SB w4 w.heap.size 0 0 false from Dd A aL.o qd) (aM.o.rs A f) (R3.o.c A);have aY:=A.1.rest.size;clear A S3 aL aM R3;go_wp2_with fail
 go_loopw [23] (λiv wr=>iv=.int .i64 0/\wr=w4) (λ_ _=>0)
 case atStart=>exact⟨rfl,rfl⟩
 case round=>
  obtain⟨rfl,rfl⟩:=hrel;go_wp2_with fail;refine(Fc g wr K.o.2).j ?_;rintro e w5 ⟨i,a3,rfl,u⟩;have d:=Af (show SB w5 J.heap.size _ _ _ from Dd u S4.o qd);obtain⟨k,s,m⟩:=AA (show SB w5 w.heap.size 0 0 false from Dd u aK.o qd) (aH.o.rs u f) (K.o.c u);have a0:=u.1.rest.size;obtain⟨⟨r,q,l,p⟩,z,U⟩:=d.o.G;have z1:=z 1;have R:=z 2;obtain⟨⟨e0,e1,e2,e3⟩,O,aA⟩:=k.o.G;have n:=O 0;have t:=O 1;have x:=O 2;have y:=O 3;clear z O u S4 aK aH K;by_cases aV:i%16=0
  .have aI:((i:Int)%16==0)=true:=by simp;omega
   have ay:((i:Int)%32==1)=false:=by simp;omega
   clear aV;go_upto_region 13 with fail;refine xt d.o ?_;intro wt I b;obtain⟨St,ah,aw,B⟩:=Bn I (show SB wt w.heap.size 0 0 false from(b.block _ qd).c k.o) (s.o.H b d.o) (m.o.H b qd f);clear I b r q l p z1 R e0 e1 e2 e3 n t x y U aA k s m d;obtain⟨⟨r,q,l,p⟩,_,aR⟩:=St.o.G;obtain⟨⟨e0,e1,e2,e3⟩,O,aP⟩:=ah.o.G;have n:=O 0;have t:=O 1;have x:=O 2;have y:=O 3;clear O;go_region;go_wp2_with fail;refine bodyPost_ret (v:=.tuple #[.slice a M.length c,I_ 1 0 (((n2:Int)%2==1))]) Z3 rfl ⟨a,c,M,1,0,_,rfl,N,T,L.o,?_,?_⟩
   .exact Zq
   exact Jr B.o f
  have aI:((i:Int)%16==0)=false:=by simp;omega
  by_cases aN:i%32=1
  .have ay:((i:Int)%32==1)=true:=by simp;omega
   clear aN;go_upto_region 13 with fail;refine vf d.o ?_;intro wt I b;obtain⟨St,ah,aw,B⟩:=Bn I (show SB wt w.heap.size 0 0 false from(b.block _ qd).c k.o) (s.o.H b d.o) (m.o.H b qd f);clear I b r q l p z1 R e0 e1 e2 e3 n t x y U aA k s m d;obtain⟨⟨r,q,l,p⟩,_,aR⟩:=St.o.G;obtain⟨⟨e0,e1,e2,e3⟩,O,aP⟩:=ah.o.G;have n:=O 0;have t:=O 1;have x:=O 2;have y:=O 3;clear O;go_region;go_wp2_with fail;refine bodyPost_ret (v:=.tuple #[.slice a M.length c,I_ 1000000 12 (((n2:Int)%2==1))]) Z3 rfl ⟨a,c,M,1000000,12,_,rfl,N,T,L.o,?_,?_⟩
   .exact Zq
   exact Jr B.o f
  have ay:((i:Int)%32==1)=false:=by simp;omega
  clear aN;go_upto_region 13 with fail;obtain⟨St,ah,aw,B⟩:=Bn d.o k.o s.o m.o;clear r q l p z1 R e0 e1 e2 e3 n t x y U aA k s m d;obtain⟨⟨r,q,l,p⟩,_,aR⟩:=St.o.G;obtain⟨⟨e0,e1,e2,e3⟩,O,aP⟩:=ah.o.G;have n:=O 0;have t:=O 1;have x:=O 2;have y:=O 3;clear O;go_region;go_wp2_with fail;refine bodyPost_ret (v:=.tuple #[.slice a M.length c,I_ 1 12 (((n2:Int)%2==1))]) Z3 rfl ⟨a,c,M,1,12,_,rfl,N,T,L.o,?_,?_⟩
  .exact Zq
  exact Jr B.o f
def OO.lower{w base base' a c N}(h:OO w base a c N)(d:base'<=base):OO w base' a c N:=⟨CA h.1 d,λx b=>⟨(h.2 x b).1,CA (h.2 x b).2.1 d,(h.2 x b).2.2⟩⟩
def nP(a n c w)(h:JD w a n)(B:n<=1048576):Ca 7 #[.slice a n c,.int .i64 0] w λe w'=>∃b f M nx cp sg,e=.returned (.tuple #[.slice b (List.length M) f,I_ nx cp sg])/\1<=M.length/\M.length<=8/\JA M/\RO w' w.heap.size b f M/\Below w.heap.size w w':=by
 have p:=Af h;clear h;have i:=Er w;have RD:=Af (λo=>(p.o.d (i.o o)).bc (c:=c) B (g:=w.heap.size+1) qe);go_enter func7,ntmps7;go_wp2_with fail;refine(zkI (w.heap.size+1) _ (RD.o _)).j ?_;rintro e l ⟨b,f,M,nx,cp,sg,rfl,y,s,m,q,O⟩;have A:=Af m;clear m;obtain⟨k,r,C⟩:=AA (show SB l w.heap.size 0 0 false from Dd O ((yS _ _ _ qe).c (heap_alloc_new _ _)) qd) (q.lower (base':=w.heap.size) qf) (show Below w.heap.size w l from(((i.o _).alloc qe _).c (O.1.d qf (λg hg=>ZR))));clear q O i RD p;obtain⟨⟨D,t,u,x⟩,z,K⟩:=k.o.G;have I:=z 0;have J:=z 1;have E:=z 2;have H:=z 3;clear z;unfold I_;go_wp2_with fail;refine bodyPost_ret (v:=.tuple #[.slice b M.length f,I_ nx cp sg]) (by simp[results,results7,go_sem,D,t,u,x,I_]) rfl ⟨b,f,M,nx,cp,sg,rfl,y,s,A.o,?_,?_⟩
 .exact Jz r.o k.o
 exact(((C.o.setCell (yu _) _).setCell (yu _) _).setCell (yu _) _).setCell (yu _) _
def mS(a n c t i q w)(h:JD w a n)(R:n<=1048576)(v:JD w t i)(H:i<=1048576):Ca 9 #[.slice a n c,.slice t i q] w λe w'=>∃b f N,e=.returned (.slice b (List.length N) f)/\N.length<=24/\OO w' w.heap.size b f N/\Below w.heap.size w w':=by
 obtain⟨A,z⟩:=Ah v (nP a n c w h R);clear v h;go_enter func9,ntmps9;go_wp2_with fail;refine z.o.j ?_;rintro e w1 ⟨D,I,M,nx,cp,sg,rfl,Y,B,x,p,k⟩;have E:=Af x;clear x;obtain⟨u,y⟩:=Ah p k;have G:=k.size;clear p k z;unfold I_;go_upto_region 2 with fail;refine Be ?_;intro l O _;obtain⟨L,r⟩:=Ah (u.o.C O) (y.o.thn O);have Z:=O.size;have T:=Er l;have RD:=Af ((A.o.d r.o).bc (c:=q) H (g:=l.heap.size) rfl);clear O u y;go_wp2_with fail;refine(xT l.heap.size w.heap.size D I M _ RD.o (L.o.C (T.o _)) E.o Y B).j ?_;rintro e W ⟨b,f,N,rfl,K,m,s⟩;obtain⟨U,J⟩:=Ah (m.lower (show w.heap.size<=_ by simp;omega)) (show Below w.heap.size w W from(r.o.alloc qd _).c (s.1.d qf (λg hg=>ZR)));clear m s;go_wp2_with fail;go_ret;exact⟨b,f,N,rfl,K,U.o,J.o⟩
end Go.Proofs.YtikojfajahnhgaaGreat
