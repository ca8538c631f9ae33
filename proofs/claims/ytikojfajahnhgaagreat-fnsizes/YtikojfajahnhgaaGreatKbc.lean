import Derived.Test.YtikojfajahnhgaaGreatKbb
set_option linter.all false
set_option maxRecDepth 100000
namespace Go.Proofs.YtikojfajahnhgaaGreat
attribute [local simp] At I6 Pn mzI
attribute [local go_sem] At I6 Pn
open Go.RowKit Go.Proofs.Tryz
attribute [local go_sem ↓] wp_at_zero wp_at_succ
def ZI{P:Prop}(h:P:=by
 go_wp2_with fail;refine(QD g _ (ar.o _)).j ?_;rintro e w2 ⟨v,hv,rfl,af⟩;obtain⟨aw,au,am⟩:=AA ((ao.o.C (HA.o _)).c af) (Dd af (heap_alloc_new _ _) (by omega)) ((ai.o.C (HA.o _)).rs af (by omega) (by omega));clear af;unfold vV;go_wp2_with (first|(refine nU (by rfl) 187 (.tmp 18) (.tmp 17) (by rfl) w1.heap.size 3 (V.cells v) (by rfl) (by rfl) _ 225 au.o (by simp[V.cells]) MN (V.cells_one _) (Gl ⟨0,0,⟨#[]⟩,v,0,0⟩).toArray (by rfl) ?_;intro wt hE ht)|fail);obtain⟨E,O⟩:∃E:Ex,E=⟨0,0,⟨#[]⟩,v,0,0⟩:=⟨_,rfl⟩
 have ax:GN E:=by rw[O];exact⟨yk 20,hv,Y8 0,(by decide:(0:Int)<256)⟩
 have aB:Ge K E:=by rw[O];exact .inl ⟨v,hv.2.2.2.2,rfl⟩
 rw[<-O]at hE;obtain⟨HQ,aj,hN⟩:=AA (am.o.H ht.o (by omega) (λe=>by have:=aq.o _ e;omega)) (Qs.of (b:=b) (o:=(Value.slice a xs.length c).ownBlock) (aw.o.H ht.o (by omega) aF)) (Fs.refl w.heap.size (Value.slice a xs.length c).ownBlock);have aG:base<=wt.heap.size:=by have:=aj.o.rest.size;omega
 clear am ai ao ar aw au aq HA ht O hv c3;have aK:b<wt.heap.size:=Ak HQ.o.1;have aM:wt.cell? ⟨b,3,none⟩=some (.slice a xs.length c):=by simp[World.cell?,HQ.o.1]
 obtain⟨t0,t1,t2,t3,t4,t5,t6,t7⟩:=NE hE.o;obtain⟨aA,ah⟩:=Ah (λW(h:Below wt.heap.size wt W)=>Bv HQ.o.2.1 (λk hk=>h.block k (HQ.o.2.1.lt k hk).2)) (λo=>(yX wt.heap.size wt).drew.alloc (yu _) o:∀o,Below wt.heap.size wt (wt.drew.alloc o));go_wp2_with fail
 go_region_law (refine Hd (by rfl) (.tmp 79) (.tmp 81) 50 (by rfl) base 225 _ 8 80 underlying50 Xo (by rfl) (by omega) _ xs.length _ (by rfl) (aA.o _ ?_) (some ⟨_,0,none⟩) 1 1 (by rfl) (Gl E) (by rfl) (λe=>by cases e) (Cv _ _ _ _ (by simp)) (QG E) (by unfold maxLen;omega) (by omega) (by first|(simp;omega)|omega) ?_;exact ah.o _;intro a3 c3 w3 az ak ay;obtain⟨k3,z3⟩:=Xl HQ.o (ah.o _) ak.o hbb)
 all_goals
  go_wp2_with fail;go_ret;obtain⟨r1,r2,r3⟩:=UT HQ.o ax aj.o hN.o (ah.o _) az.o ak.o ay.o aH hbb (by omega);exact⟨a3,c3,xs++[E],r1,by first|(simp;done)|(simp;omega),by first|(simp;done)|(simp;omega),EB (by simp),r2,by simpa using r3,⟨[E],rfl,Dy.bB aB⟩,λ_=>by simp⟩
 ):P:=h
set_option maxHeartbeats 6400000 in
def kz(K g b base x0 x1 y x z kn kc)(aH:g<b)(hbb:b<base)(d a c xs w)(hd:d<=8)(h:DQ w g)(Z:QB w b base x0 x1 y x a c xs)(hk:I0 K w g b base z kn)(hbase:base<=w.heap.size)(aa:xs.length+fD d<=100000)(IH:∀f,d=f+1->∀(a:Option Addr)(c:Nat)(xs:List Ex)(w:World),DQ w g->QB w b base x0 x1 y x a c xs->I0 K w g b base z kn->base<=w.heap.size->xs.length+fD f<=100000->Ca 245 #[.pointer (some ⟨g,0,none⟩),.pointer (some ⟨b,0,none⟩),.slice z kn kc,.int .i64 (f:Int)] w (Ju K g b base x0 x1 y x a c xs f w)) :
  Ca 245 #[.pointer (some ⟨g,0,none⟩),.pointer (some ⟨b,0,none⟩),.slice z kn kc,.int .i64 (d:Int)] w (Ju K g b base x0 x1 y x a c xs d w):=by
 have bP:1<=fD d:=by cases d<;>simp[fD]
 obtain⟨T,H⟩:=Ah IH h;have aF:=h.lt;clear h IH;go_enter func245,ntmps245;go_wp2_with fail;refine(Fc g _ H.o).j ?_;rintro e w1 ⟨u,hu,rfl,hr⟩;obtain⟨ao,ai,t⟩:=AA hr (Z.rs hr qd qd) (hk.keep (w':=w1) (λk _ hl hg _=>hr.1.block k hl (λe=>qK)));have ab:=hr.1.rest.size;have aq:=Af (λk(e:(Value.slice a xs.length c).ownBlock=some k)=>(ai.o.2.1.lt k e).2);have bG:b<w1.heap.size:=Ak ai.o.1;have c3:w1.cell? ⟨b,3,none⟩=some (.slice a xs.length c):=by simp[World.cell?,ai.o.1]
 have HA:=Er w1;have ar:=Af (λo=>ao.o.2.C (HA.o o));have bm:xs.length+1<=100000:=qd;clear hr Z hk H;by_cases h5:u%5=0
 .by_cases bp:kn=0
  focus
   subst bp;go_wp2_with fail;refine(QD g _ (ar.o _)).j ?_;rintro e w2 ⟨v,hv,rfl,af⟩;obtain⟨aw,au,am⟩:=AA ((ao.o.C (HA.o _)).c af) (Dd af (heap_alloc_new _ _) qd) ((ai.o.C (HA.o _)).rs af qd qd);clear af;unfold vV;go_wp2_with (first|(refine nU qi 187 (.tmp 18) (.tmp 17) qi w1.heap.size 3 (V.cells v) qi qi _ 225 au.o (by simp[V.cells]) MN (V.cells_one _) (Gl ⟨0,0,⟨#[]⟩,v,0,0⟩).toArray qi ?_;intro wt hE ht)|fail);obtain⟨E,O⟩:∃E:Ex,E=⟨0,0,⟨#[]⟩,v,0,0⟩:=⟨_,rfl⟩
   have ax:GN E:=by rw[O];exact⟨yk 20,hv,Y8 0,(by decide:(0:Int)<256)⟩
   have aB:Ge K E:=by rw[O];exact .inl ⟨v,hv.2.2.2.2,rfl⟩
   rw[<-O]at hE;obtain⟨HQ,aj,hN⟩:=AA (am.o.H ht.o qd (λe=>by have:=aq.o _ e;omega)) (Qs.of (b:=b) (o:=(Value.slice a xs.length c).ownBlock) (aw.o.H ht.o qd aF)) (Fs.refl w.heap.size (Value.slice a xs.length c).ownBlock);have aG:base<=wt.heap.size:=by have:=aj.o.rest.size;omega
   clear am ai ao ar aw au aq HA ht O hv c3
  rotate_left
  focus
   have bC:(0:Int)<(kn:Int):=qd;obtain⟨k,hk⟩:∃k,k=u/5%kn:=⟨_,rfl⟩
   have bv:k<kn:=by rw[hk];exact Wz _ qd
   have bl:(u:Int)/5%(kn:Int)=(k:Int):=by rw[hk];first|(norm_cast;done)|(simp;done)|(push_cast;rfl)
   have bK:(k:Int)<(kn:Int):=qd;have bD:(0:Int)<=(k:Int):=qd;obtain⟨kb,ko,G,rfl,bF,bQ,bk,a9,bt⟩:=t.o.2 k bv;have bB:kb<w1.heap.size:=qd;clear hk;go_wp2_with (first|(refine C7 qi 225 (.tmp 10) (.tmp 74) qi w1.heap.size (Gl ⟨1,0,G,(0,0,⟨#[]⟩),0,0⟩) qi qi _ 225 (heap_alloc_new _ _) qi gz (QG _) ?_;intro wt hE ht)|fail);obtain⟨E,O⟩:∃E:Ex,E=⟨1,0,G,(0,0,⟨#[]⟩),0,0⟩:=⟨_,rfl⟩
   have ax:GN E:=by rw[O];exact⟨a9.1,PT,Y8 0,(by decide:(0:Int)<256)⟩
   have aB:Ge K E:=by rw[O];exact .inr ⟨G,a9.2.2,rfl⟩
   rw[<-O]at hE;obtain⟨HQ,aj,hN⟩:=AA ((ai.o.C (HA.o _)).H ht.o qd (λe=>by have:=aq.o _ e;omega)) (Qs.of (b:=b) (o:=(Value.slice a xs.length c).ownBlock) ((ao.o.C (HA.o _)).H ht.o qd aF)) (Fs.refl w.heap.size (Value.slice a xs.length c).ownBlock);have aG:base<=wt.heap.size:=by have:=aj.o.rest.size;omega
   clear ai ao ar aq HA ht O c3 bl bt t
  rotate_left
  all_goals
   have aK:b<wt.heap.size:=Ak HQ.o.1;have aM:wt.cell? ⟨b,3,none⟩=some (.slice a xs.length c):=by simp[World.cell?,HQ.o.1]
   obtain⟨t0,t1,t2,t3,t4,t5,t6,t7⟩:=NE hE.o;obtain⟨aA,ah⟩:=Ah (λW(h:Below wt.heap.size wt W)=>Bv HQ.o.2.1 (λk hk=>h.block k (HQ.o.2.1.lt k hk).2)) (λo=>(yX wt.heap.size wt).drew.alloc (yu _) o:∀o,Below wt.heap.size wt (wt.drew.alloc o));go_wp2_with fail
   go_region_law (refine Hd qi (.tmp 79) (.tmp 81) 50 qi base 225 _ 8 80 underlying50 Xo qi qd _ xs.length _ qi (aA.o _ ?_) (some ⟨_,0,none⟩) 1 1 qi (Gl E) qi (λe=>qo) (Cv _ _ _ _ qe) (QG E) qj qd (by first|(simp;omega)|omega) ?_;exact ah.o _;intro a3 c3 w3 az ak ay;obtain⟨k3,z3⟩:=Xl HQ.o (ah.o _) ak.o hbb)
   all_goals
    go_wp2_with fail;go_ret;obtain⟨r1,r2,r3⟩:=UT HQ.o ax aj.o hN.o (ah.o _) az.o ak.o ay.o aH hbb qd;exact⟨a3,c3,xs++[E],r1,qv,qv,EB qe,r2,by simpa using r3,⟨[E],rfl,Dy.bB aB⟩,λ_=>qe⟩
 have bN:¬(u:Int)%5=0:=qd;by_cases bI:u%5<=2
 .have bf:¬(2:Int)<(u:Int)%5:=qd;exact ZI
 have bf:(2:Int)<(u:Int)%5:=qd;by_cases bw:d=0
 .subst bw;exact ZI
 have bA:(0:Int)<(d:Int):=qd;by_cases bz:xs.length<52
 .have aU:(xs.length:Int)<52:=qd;obtain⟨f,rfl⟩:∃f,d=f+1:=⟨d-1,qd⟩
  have bJ:fD (f+1)=2*fD f+1:=rfl;have bi:((f+1:Nat):Int)-1=(f:Int):=qd;have bd:∀o,base<=(w1.alloc o).heap.size:=λo=>by simp;omega
  have D:=Af (λo=>t.o.keep (w':=w1.alloc o) (λk _ hl _ _=>(HA.o o).block k hl));go_wp2_with fail
  try rw[bi]
  refine(T.o f rfl a c xs _ (ar.o _) (ai.o.C (HA.o _)) (D.o _) (bd _) qd).j ?_;rintro e w2 ⟨a2,Y,B,bg,bL,bM,rfl,p,M,bu,_⟩;have am:=Af bg;have bh:base<=w2.heap.size:=by have:=p.rest.size;have:=bd (.cells #[] 0);simp at *;omega
  have s:(Value.slice a xs.length c).ownBlock≠some w1.heap.size:=λe=>by have:=aq.o _ e;omega
  obtain⟨m,bc⟩:=Ah ((p.block w1.heap.size qe qd qd s).c (heap_alloc_new _ _)) ((D.o _).qs p (λk hk=>(ai.o.2.1.lt k hk).1));have bn:w1.heap.size<w2.heap.size:=Ak m.o;have bO:b<w2.heap.size:=qd;obtain⟨aR,I,U,bj⟩:=Bn ((Qs.of (b:=b) (o:=(Value.slice a xs.length c).ownBlock) (ao.o.C (HA.o _))).c p (Fs.refl _ _)) (M.j (N:=w.heap.size) qf) (M.j (N:=w1.heap.size+1) qe) p.bc;clear p M bg ai t D ar ao c3 HA;go_wp2_with fail
  try rw[bi]
  refine(T.o f rfl a2 Y B w2 bj.o am.o bc.o bh qd).j ?_;rintro e J ⟨a4,c4,r,a7,ay,bE,rfl,R,L,br,_⟩;have a5:=Af a7;have aS:(Value.slice a2 B.length Y).ownBlock≠some w1.heap.size:=λe=>by
   rcases U.o with h|h
   .exact s (by rw[<-h,e])
   have:=h _ e;omega
  have n:=Af ((R.block w1.heap.size bn qd qd aS).c m.o);have bo:w1.heap.size<J.heap.size:=Ak n.o;obtain⟨aO,a6,aP⟩:=AA (aR.o.c R I.o) (I.o.c L qd) (U.o.c L qd);have A:=Er J;have bH:b<J.heap.size:=qd;have aQ:(Value.slice a4 r.length c4).ownBlock≠some w1.heap.size:=λe=>by
   rcases aP.o with h|h
   .exact s (by rw[<-h,e])
   have:=h _ e;omega
  clear R L a7 am bc bj aR m T;have q:u/5%5=0∨u/5%5=1∨u/5%5=2∨u/5%5=3∨u/5%5=4:=qd;go_wp2_with fail;refine(zo6 _).j ?_;rintro e w5 ⟨rfl,rfl⟩;rcases q with q|q|q|q|q
  all_goals
   go_wp2_with (first|(refine C7 qi 225 (.tmp 10) (.tmp 56) qi w1.heap.size (Gl ⟨2,_,⟨#[]⟩,(0,0,⟨#[]⟩),(B.length:Int)-1,(r.length:Int)-1⟩) qi qi _ 225 (((A.o _).block _ bo).c n.o) qi gz (QG _) ?_;intro wt a8 ht;obtain⟨E,ax,bq,hE⟩:=d_ a8 (by first|rfl|decide) py py;clear a8)|fail);obtain⟨HQ,aj,hN⟩:=AA ((a5.o.C (A.o _)).H ht.o qd aQ) ((aO.o.C (A.o _)).H ht.o qd aF) a6.o;have aG:base<=wt.heap.size:=by have:=aj.o.rest.size;omega
   clear a5 aO a6 aP I U n A ht aq s aS aQ;have aK:b<wt.heap.size:=Ak HQ.o.1;have aM:wt.cell? ⟨b,3,none⟩=some (.slice a4 r.length c4):=by simp[World.cell?,HQ.o.1]
   obtain⟨t0,t1,t2,t3,t4,t5,t6,t7⟩:=NE hE.o;obtain⟨aA,ah⟩:=Ah (λW(h:Below wt.heap.size wt W)=>Bv HQ.o.2.1 (λk hk=>h.block k (HQ.o.2.1.lt k hk).2)) (λo=>(yX wt.heap.size wt).drew.alloc (yu _) o:∀o,Below wt.heap.size wt (wt.drew.alloc o));go_wp2_with fail
   go_region_law (refine Hd qi (.tmp 79) (.tmp 81) 50 qi base 225 _ 8 80 underlying50 Xo qi qd _ r.length _ qi (aA.o _ ?_) (some ⟨_,0,none⟩) 1 1 qi (Gl E) qi (λe=>qo) (Cv _ _ _ _ qe) (QG E) qj qd (by first|(simp;omega)|omega) ?_;exact ah.o _;intro a3 c3 w3 az ak ay;obtain⟨k3,z3⟩:=Xl HQ.o (ah.o _) ak.o hbb)
   all_goals
    go_wp2_with fail;go_ret;obtain⟨r1,r2,r3⟩:=UT HQ.o ax aj.o hN.o (ah.o _) az.o ak.o ay.o aH hbb qd;exact⟨a3,c3,r++[E],r1,qv,qv,EB qe,r2,by simpa using r3,tN bu br bq,λ_=>qd⟩
 have aU:¬(xs.length:Int)<52:=qd;exact ZI
end Go.Proofs.YtikojfajahnhgaaGreat
