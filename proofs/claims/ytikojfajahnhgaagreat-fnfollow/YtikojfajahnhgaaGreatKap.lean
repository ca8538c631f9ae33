import Derived.Test.YtikojfajahnhgaaGreatKao
set_option linter.all false
set_option maxHeartbeats 12800000
set_option maxRecDepth 100000
namespace Go.Proofs.YtikojfajahnhgaaGreat
open Go.RowKit Go.Proofs.Tryz
attribute [local go_sem ↓] wp_at_zero wp_at_succ
attribute [local simp] At I6 Pn mzI Bk
attribute [local go_sem] At I6 Pn Bk
def px{d u K xs l}(hu:Bo l=u)(h:(1<=u%5/\u%5<=2)∨(u%5=0/\¬0<K.length)):ED d K xs l=(xs++[⟨0,0,wS [],Dz (Bo l.tail),0,0⟩],l.tail.tail):=by
 cases d with
 |zero=>unfold ED;rw[hu,if_neg qd]
 |succ d=>unfold ED;rw[hu,if_neg qd,if_neg qd]
def zl3{u K xs l}(hu:Bo l=u)(h:¬u%5=0):ED 0 K xs l=(xs++[⟨0,0,wS [],Dz (Bo l.tail),0,0⟩],l.tail.tail):=by
 unfold ED;rw[hu,if_neg qd]
def zmc{d u K xs l}(hu:Bo l=u)(h:¬u%5=0)(hl:¬xs.length<52):ED d K xs l=(xs++[⟨0,0,wS [],Dz (Bo l.tail),0,0⟩],l.tail.tail):=by
 cases d with
 |zero=>unfold ED;rw[hu,if_neg qd]
 |succ d=>unfold ED;rw[hu,if_neg qd,if_neg qd]
def zsP{d u K xs l s}(hu:Bo l=u)(h:u%5=0)(b:0<K.length)(a:K.getD (u/5%K.length) (wS [])=s):ED d K xs l=(xs++[⟨1,0,s,Jv,0,0⟩],l.tail):=by
 cases d with
 |zero=>unfold ED;rw[hu,if_pos ⟨h,b⟩,a]
 |succ d=>unfold ED;rw[hu,if_neg qd,if_pos ⟨h,b⟩,a]
def wH{d u K xs a b l c}(hu:Bo l=u)(h:2<u%5)(hl:xs.length<52)(f:a=(ED d K xs l.tail).1)(g:b=(ED d K a (ED d K xs l.tail).2).1)(e:jg (u/5%5)=c) :
  ED (d+1) K xs l=(b++[⟨2,c,wS [],Jv,(a.length:Int)-1,(b.length:Int)-1⟩],(ED d K a (ED d K xs l.tail).2).2):=by
 subst g;subst f;simp only[ED];rw[hu,if_pos ⟨h,hl⟩,e]
def uA{P:Prop}(h:P:=by
 have az:IV E:=by rw[O];exact⟨yn 20,hv,Wh 0,(by decide:(0:Int)<256)⟩
 have aD:Ia K E:=by rw[O];exact .inl ⟨v,hv.2.2.2.2,rfl⟩
 rw[<-O]at hE;obtain⟨HQ,aj,hN⟩:=AK (ak.o.N ht.o (by omega) (λe=>by have:=aq.o _ e;omega)) (Qs.of (b:=b) (o:=(Value.slice a xs.length c).ownBlock) (ar.o.N ht.o (by omega) hlt)) (GN.refl w.heap.size (Value.slice a xs.length c).ownBlock);have aL:base<=wt.heap.size:=by have:=aj.o.rest.size;omega
 clear ak ai ao au ar ax aq HA ht O hv c3;have aP:b<wt.heap.size:=Ap HQ.o.1;have aO:wt.cell? ⟨b,3,none⟩=some (.slice a xs.length c):=by simp[World.cell?,HQ.o.1]
 obtain⟨t0,t1,t2,t3,t4,t5,t6,t7⟩:=Qw hE.o;obtain⟨aB,af⟩:=An (λW(h:Below wt.heap.size wt W)=>Ci HQ.o.2.1 (λk hk=>h.block k (HQ.o.2.1.lt k hk).2)) (λo=>(y8 wt.heap.size wt).drew.alloc (yA _) o:∀o,Below wt.heap.size wt (wt.drew.alloc o));go_wp2_with fail
 go_region_law (refine GG (by rfl) (.tmp 79) (.tmp 81) 50 (by rfl) base 225 _ 8 80 underlying50 gL (by rfl) (by omega) _ xs.length _ (by rfl) (aB.o _ ?_) (some ⟨_,0,none⟩) 1 1 (by rfl) (Ho E) (by rfl) (λe=>by cases e) (CH _ _ _ _ (by simp)) (TH E) (by unfold maxLen;omega) (by omega) (by first|(simp;omega)|omega) ?_;exact af.o _;intro a3 c3 w3 aA am ay;obtain⟨k3,z3⟩:=gR HQ.o (af.o _) am.o hbb)
 all_goals
  go_wp2;go_ret;obtain⟨r1,r2,r3⟩:=Zd HQ.o az aj.o hN.o (af.o _) aA.o am.o ay.o aK hbb (by omega);exact⟨a3,c3,xs++[E],r1,by first|(simp;done)|(simp;omega),by first|(simp;done)|(simp;omega),GT (by simp),by rw[HX.o];exact r2,by simpa using r3,⟨[E],rfl,EA.bM aD⟩,λ_=>by simp,show _=_ from aC.o.z⟩
 ):P:=h
def tY{P:Prop}(h:P:=by
 clear aw;obtain⟨ar,ax,ak⟩:=AK ((ao.o.C (HA.o _)).c ah) (DX ah (heap_alloc_new _ _) (by omega)) ((ai.o.C (HA.o _)).rs ah (by omega) (by omega));clear ah;unfold vV;go_wp2_with (first|(refine iU (by rfl) 187 (.tmp 18) (.tmp 17) (by rfl) w1.heap.size 3 (V.cells v) (by rfl) (by rfl) _ 225 ax.o (by simp[V.cells]) Ol (V.cells_one _) (Ho ⟨0,0,⟨#[]⟩,v,0,0⟩).toArray (by rfl) ?_;intro wt hE ht)|fail);obtain⟨E,O⟩:∃E:Ex,E=⟨0,0,⟨#[]⟩,v,0,0⟩:=⟨_,rfl⟩
 have aC:Hid ((ED d K xs l).1=xs++[E]):=show _=_ from by rw[HX.o,O];rfl
 exact uA
 ):P:=h
def ny(K l g b base x0 x1 y B G kn kc)(aK:g<b)(hbb:b<base)(d a c xs w)(hd:d<=8)(h:ES w g l)(hq:QB w b base x0 x1 y B a c xs)(hk:LM K w g b base G kn)(hbase:base<=w.heap.size)(aa:xs.length+fD d<=100000)(IH:∀f,d=f+1->∀(l:Bs)(a:Af)(c:Nat)(xs:AL)(w:Aa),ES w g l->QB w b base x0 x1 y B a c xs->LM K w g b base G kn->base<=w.heap.size->xs.length+fD f<=100000->Ca 245 #[.pointer (some ⟨g,0,none⟩),.pointer (some ⟨b,0,none⟩),.slice G kn kc,.int .i64 (f:Int)] w (Mm K l g b base x0 x1 y B a c xs f w)) :
  Ca 245 #[.pointer (some ⟨g,0,none⟩),.pointer (some ⟨b,0,none⟩),.slice G kn kc,.int .i64 (d:Int)] w (Mm K l g b base x0 x1 y B a c xs d w):=by
 have bR:1<=fD d:=by cases d<;>simp[fD]
 obtain⟨a6,H⟩:=An IH h;have hlt:=h.lt;clear h IH;go_enter func245,ntmps245;go_wp2_with fail;refine(Gv g l _ H.o).j ?_;rintro e w1 ⟨u,hu,rfl,hr,s⟩;obtain⟨M,ao,ai,I⟩:=BP hk.1.2 hr (hq.rs hr qd qd) (hk.keep (w':=w1) (λk _ hl hg _=>hr.1.block k hl (λe=>qO)));have ab:=hr.1.rest.size;have aq:=Ai (λk(e:(Value.slice a xs.length c).ownBlock=some k)=>(ai.o.2.1.lt k e).2);have bL:b<w1.heap.size:=Ap ai.o.1;have c3:w1.cell? ⟨b,3,none⟩=some (.slice a xs.length c):=by simp[World.cell?,ai.o.1]
 have HA:=Fx w1;have au:=Ai (λo=>ao.o.2.C (HA.o o));have bC:xs.length+1<=100000:=qd;clear hr hq hk H;by_cases h5:u%5=0
 .by_cases bG:kn=0
  focus
   subst bG;go_wp2_with fail;refine(PM g l.tail _ (au.o _)).j ?_;rintro e m ⟨v,⟨hv,aw⟩,rfl,ah⟩;have HX:Hid (ED d K xs l=(xs++[⟨0,0,wS [],v,0,0⟩],l.tail.tail)):=show _=_ from by rw[aw.o];exact px s.o (.inr ⟨qd,by rw[<-M.o];omega⟩)
   clear aw;obtain⟨ar,ax,ak⟩:=AK ((ao.o.C (HA.o _)).c ah) (DX ah (heap_alloc_new _ _) qd) ((ai.o.C (HA.o _)).rs ah qd qd);clear ah;unfold vV;go_wp2_with (first|(refine iU qh 187 (.tmp 18) (.tmp 17) qh w1.heap.size 3 (V.cells v) qh qh _ 225 ax.o (by simp[V.cells]) Ol (V.cells_one _) (Ho ⟨0,0,⟨#[]⟩,v,0,0⟩).toArray qh ?_;intro wt hE ht)|fail);obtain⟨E,O⟩:∃E:Ex,E=⟨0,0,⟨#[]⟩,v,0,0⟩:=⟨_,rfl⟩
   have aC:Hid ((ED d K xs l).1=xs++[E]):=show _=_ from by rw[HX.o,O];rfl
   have az:IV E:=by rw[O];exact⟨yn 20,hv,Wh 0,(by decide:(0:Int)<256)⟩
   have aD:Ia K E:=by rw[O];exact .inl ⟨v,hv.2.2.2.2,rfl⟩
   rw[<-O]at hE;obtain⟨HQ,aj,hN⟩:=AK (ak.o.N ht.o qd (λe=>by have:=aq.o _ e;omega)) (Qs.of (b:=b) (o:=(Value.slice a xs.length c).ownBlock) (ar.o.N ht.o qd hlt)) (GN.refl w.heap.size (Value.slice a xs.length c).ownBlock);have aL:base<=wt.heap.size:=by have:=aj.o.rest.size;omega
   clear ak ai ao au ar ax aq HA ht O hv c3
  rotate_left
  focus
   have bH:(0:Int)<(kn:Int):=qd;obtain⟨k,hk⟩:=AF (u/5%kn);have br:k<kn:=by rw[hk];exact Wx _ qd
   have bv:(u:Int)/5%(kn:Int)=(k:Int):=by rw[hk];first|(norm_cast;done)|(simp;done)|(push_cast;rfl)
   obtain⟨bI,bW⟩:=CZ br;obtain⟨kb,ko,x,rfl,bM,bX,bt,T,bF⟩:=I.o.2 k br;have HX:Hid (ED d K xs l=(xs++[⟨1,0,x,Jv,0,0⟩],l.tail)):=show _=_ from zsP s.o h5 (by rw[<-M.o];omega) (by rw[<-M.o,<-hk];simp[List.getD,T.2]);have bK:kb<w1.heap.size:=qd;clear hk;go_wp2_with (first|(refine Ec qh 225 (.tmp 10) (.tmp 74) qh w1.heap.size (Ho ⟨1,0,x,(0,0,⟨#[]⟩),0,0⟩) qh qh _ 225 (heap_alloc_new _ _) qh lN (TH _) ?_;intro wt hE ht)|fail);obtain⟨E,O⟩:∃E:Ex,E=⟨1,0,x,(0,0,⟨#[]⟩),0,0⟩:=⟨_,rfl⟩
   have aC:Hid ((ED d K xs l).1=xs++[E]):=show _=_ from by rw[HX.o,O];rfl
   have az:IV E:=by rw[O];exact⟨T.1.1,S8,Wh 0,(by decide:(0:Int)<256)⟩
   have aD:Ia K E:=by rw[O];exact .inr ⟨x,T.1.2.2,rfl⟩
   rw[<-O]at hE;obtain⟨HQ,aj,hN⟩:=AK ((ai.o.C (HA.o _)).N ht.o qd (λe=>by have:=aq.o _ e;omega)) (Qs.of (b:=b) (o:=(Value.slice a xs.length c).ownBlock) ((ao.o.C (HA.o _)).N ht.o qd hlt)) (GN.refl w.heap.size (Value.slice a xs.length c).ownBlock);have aL:base<=wt.heap.size:=by have:=aj.o.rest.size;omega
   clear ai ao au aq HA ht O c3 bv bF I
  rotate_left
  all_goals
   have aP:b<wt.heap.size:=Ap HQ.o.1;have aO:wt.cell? ⟨b,3,none⟩=some (.slice a xs.length c):=by simp[World.cell?,HQ.o.1]
   obtain⟨t0,t1,t2,t3,t4,t5,t6,t7⟩:=Qw hE.o;obtain⟨aB,af⟩:=An (λW(h:Below wt.heap.size wt W)=>Ci HQ.o.2.1 (λk hk=>h.block k (HQ.o.2.1.lt k hk).2)) (λo=>(y8 wt.heap.size wt).drew.alloc (yA _) o:∀o,Below wt.heap.size wt (wt.drew.alloc o));go_wp2_with fail
   go_region_law (refine GG qh (.tmp 79) (.tmp 81) 50 qh base 225 _ 8 80 underlying50 gL qh qd _ xs.length _ qh (aB.o _ ?_) (some ⟨_,0,none⟩) 1 1 qh (Ho E) qh (λe=>qo) (CH _ _ _ _ qf) (TH E) qj qd (by first|(simp;omega)|omega) ?_;exact af.o _;intro a3 c3 w3 aA am ay;obtain⟨k3,z3⟩:=gR HQ.o (af.o _) am.o hbb)
   all_goals
    go_wp2;go_ret;obtain⟨r1,r2,r3⟩:=Zd HQ.o az aj.o hN.o (af.o _) aA.o am.o ay.o aK hbb qd;exact⟨a3,c3,xs++[E],r1,qv,qv,GT qf,by rw[HX.o];exact r2,by simpa using r3,⟨[E],rfl,EA.bM aD⟩,λ_=>qf,show _=_ from aC.o.z⟩
 have bS:¬(u:Int)%5=0:=qd;by_cases bN:u%5<=2
 .have bk:¬(2:Int)<(u:Int)%5:=qd;go_wp2_with fail;refine(PM g l.tail _ (au.o _)).j ?_;rintro e m ⟨v,⟨hv,aw⟩,rfl,ah⟩;have HX:Hid (ED d K xs l=(xs++[⟨0,0,wS [],v,0,0⟩],l.tail.tail)):=show _=_ from by rw[aw.o];exact px s.o (.inl qd)
  exact tY
 have bk:(2:Int)<(u:Int)%5:=qd;by_cases bw:d=0
 .subst bw;go_wp2_with fail;refine(PM g l.tail _ (au.o _)).j ?_;rintro e m ⟨v,⟨hv,aw⟩,rfl,ah⟩;have HX:Hid (ED 0 K xs l=(xs++[⟨0,0,wS [],v,0,0⟩],l.tail.tail)):=show _=_ from by rw[aw.o];exact zl3 s.o qd
  clear aw;obtain⟨ar,ax,ak⟩:=AK ((ao.o.C (HA.o _)).c ah) (DX ah (heap_alloc_new _ _) qd) ((ai.o.C (HA.o _)).rs ah qd qd);clear ah;unfold vV;go_wp2_with (first|(refine iU qh 187 (.tmp 18) (.tmp 17) qh w1.heap.size 3 (V.cells v) qh qh _ 225 ax.o (by simp[V.cells]) Ol (V.cells_one _) (Ho ⟨0,0,⟨#[]⟩,v,0,0⟩).toArray qh ?_;intro wt hE ht)|fail);obtain⟨E,O⟩:∃E:Ex,E=⟨0,0,⟨#[]⟩,v,0,0⟩:=⟨_,rfl⟩
  have aC:Hid ((ED 0 K xs l).1=xs++[E]):=show _=_ from by rw[HX.o,O];rfl
  exact uA
 have bJ:(0:Int)<(d:Int):=qd;by_cases bc:xs.length<52
 .have a8:(xs.length:Int)<52:=qd;obtain⟨f,rfl⟩:∃f,d=f+1:=⟨d-1,qd⟩
  have bO:fD (f+1)=2*fD f+1:=rfl;have bf:((f+1:Nat):Int)-1=(f:Int):=qd;have bh:∀o,base<=(w1.alloc o).heap.size:=λo=>by simp;omega
  have Z:=Ai (λo=>I.o.keep (w':=w1.alloc o) (λk _ hl _ _=>(HA.o o).block k hl));go_wp2_with fail
  try rw[bf]
  refine(a6.o f rfl l.tail a c xs _ (au.o _) (ai.o.C (HA.o _)) (Z.o _) (bh _) qd).j ?_;rintro e m ⟨a2,c2,J,bo,bP,bQ,rfl,r,U,bA,_,bE⟩;have ak:=Ai bo;have bn:base<=m.heap.size:=by have:=r.rest.size;have:=bh (.cells #[] 0);simp at *;omega
  have A:(Value.slice a xs.length c).ownBlock≠some w1.heap.size:=λe=>by have:=aq.o _ e;omega
  obtain⟨n,bj⟩:=An ((r.block w1.heap.size qf qd qd A).c (heap_alloc_new _ _)) ((Z.o _).qs r (λk hk=>(ai.o.2.1.lt k hk).1));have bD:w1.heap.size<m.heap.size:=Ap n.o;have bU:b<m.heap.size:=qd;obtain⟨aQ,R,L,a9⟩:=BP ((Qs.of (b:=b) (o:=(Value.slice a xs.length c).ownBlock) (ao.o.C (HA.o _))).c r (GN.refl _ _)) (U.j (N:=w.heap.size) qe) (U.j (N:=w1.heap.size+1) qf) r.bh;clear r U bo ai I Z au ao c3 HA;go_wp2_with fail
  try rw[bf]
  refine(a6.o f rfl (ED f K xs l.tail).2 a2 c2 J m a9.o ak.o bj.o bn qd).j ?_;rintro e w4 ⟨a4,c4,t,bl,ay,bT,rfl,Y,a0,bu,_,bz⟩;obtain⟨bg,bi⟩:=An (λop(ho:jg (u/5%5)=op)=>wH s.o qd bc bE.o bz.o ho) bl;have aR:(Value.slice a2 J.length c2).ownBlock≠some w1.heap.size:=λe=>by
   rcases L.o with h|h
   .exact A (by rw[<-h,e])
   have:=h _ e;omega
  have p:=Ai ((Y.block w1.heap.size bD qd qd aR).c n.o);have bB:w1.heap.size<w4.heap.size:=Ap p.o;obtain⟨aU,bp,aT⟩:=AK (aQ.o.c Y R.o) (R.o.c a0 qd) (L.o.c a0 qd);have D:=Fx w4;have bV:b<w4.heap.size:=qd;have aS:(Value.slice a4 t.length c4).ownBlock≠some w1.heap.size:=λe=>by
   rcases aT.o with h|h
   .exact A (by rw[<-h,e])
   have:=h _ e;omega
  clear Y a0 bl ak bj a9 aQ n a6;have q:u/5%5=0∨u/5%5=1∨u/5%5=2∨u/5%5=3∨u/5%5=4:=qd;go_wp2_with fail;refine(zpp _).j ?_;rintro e w5 ⟨rfl,rfl⟩;rcases q with q|q|q|q|q
  all_goals
   have bm:=Ai (bg.o _ (by rw[q]));clear bg;go_wp2_with (first|(refine Ec qh 225 (.tmp 10) (.tmp 56) qh w1.heap.size (Ho ⟨2,_,⟨#[]⟩,(0,0,⟨#[]⟩),(J.length:Int)-1,(t.length:Int)-1⟩) qh qh _ 225 (((D.o _).block _ bB).c p.o) qh lN (TH _) ?_;intro wt bq ht;obtain⟨E,az,bd,hE⟩:=jh bq (by first|rfl|decide) ub ub;clear bq)|fail);obtain⟨HQ,aj,hN⟩:=AK ((bi.o.C (D.o _)).N ht.o qd aS) ((aU.o.C (D.o _)).N ht.o qd hlt) bp.o;have aL:base<=wt.heap.size:=by have:=aj.o.rest.size;omega
   clear bi aU bp aT R L p D ht aq A aR aS;have aP:b<wt.heap.size:=Ap HQ.o.1;have aO:wt.cell? ⟨b,3,none⟩=some (.slice a4 t.length c4):=by simp[World.cell?,HQ.o.1]
   obtain⟨t0,t1,t2,t3,t4,t5,t6,t7⟩:=Qw hE.o;obtain⟨aB,af⟩:=An (λW(h:Below wt.heap.size wt W)=>Ci HQ.o.2.1 (λk hk=>h.block k (HQ.o.2.1.lt k hk).2)) (λo=>(y8 wt.heap.size wt).drew.alloc (yA _) o:∀o,Below wt.heap.size wt (wt.drew.alloc o));go_wp2_with fail
   go_region_law (refine GG qh (.tmp 79) (.tmp 81) 50 qh base 225 _ 8 80 underlying50 gL qh qd _ t.length _ qh (aB.o _ ?_) (some ⟨_,0,none⟩) 1 1 qh (Ho E) qh (λe=>qo) (CH _ _ _ _ qf) (TH E) qj qd (by first|(simp;omega)|omega) ?_;exact af.o _;intro a3 c3 w3 aA am ay;obtain⟨k3,z3⟩:=gR HQ.o (af.o _) am.o hbb)
   all_goals
    go_wp2;go_ret;obtain⟨r1,r2,r3⟩:=Zd HQ.o az aj.o hN.o (af.o _) aA.o am.o ay.o aK hbb qd;exact⟨a3,c3,t++[E],r1,qv,qv,GT qf,by rw[bm.o];exact r2,by simpa using r3,zS bA bu bd.1,λ_=>qd,show _=_ from by rw[bm.o,bd.2.o];first|done|rfl⟩
 have a8:¬(xs.length:Int)<52:=qd;go_wp2_with fail;refine(PM g l.tail _ (au.o _)).j ?_;rintro e m ⟨v,⟨hv,aw⟩,rfl,ah⟩;have HX:Hid (ED d K xs l=(xs++[⟨0,0,wS [],v,0,0⟩],l.tail.tail)):=show _=_ from by rw[aw.o];exact zmc s.o qd qd
 exact tY
def zil(K g b base x0 x1 m j k kn p)(O:g<b)(i:b<base):∀(d:Nat),d<=8->∀(l:Bs)(a:Af)(c:Nat)(xs:AL)(w:Aa),ES w g l->QB w b base x0 x1 m j a c xs->LM K w g b base k kn->base<=w.heap.size->xs.length+fD d<=100000 ->
  Ca 245 #[Pn g,Pn b,.slice k kn p,I6 (d:Int)] w (Mm K l g b base x0 x1 m j a c xs d w):=by
 intro d
 induction d with
 |zero=>exactλhd l a c xs w h n o hbase f=>ny K l g b base x0 x1 m j k kn p O i 0 a c xs w hd h n o hbase f (λq e=>qd)
 |succ d ih=>exactλhd l a c xs w h n o hbase f=>ny K l g b base x0 x1 m j k kn p O i (d+1) a c xs w hd h n o hbase f (λq e=>by obtain rfl:d=q:=qd;exact ih qd)
def zrU(c w b)(h:At w b 0 (.int .u8 c)):(convert 22 9 (.slice (some ⟨b,0,none⟩) 1 1)).run prog w=.ok (.string (strOfNums [c])) w:=
 run_convert_bytes_arg (P:=prog) _ 22 5 underlying22 underlying5 b 0 1 1 [c] rfl (λi a=>by
  obtain rfl:i=0:=qd
  simpa using h) 9 underlying9
def IF(k:Nat):ByteArray:=⟨#[UInt8.ofNat (48+k)]⟩
def yo(k:Nat)(a:k<10):strOfNums [48+((k:Int)%10)]++(⟨#[]⟩:ByteArray)=IF k:=by
 have:∀k:Fin 10,strOfNums [48+(((k.val:Nat):Int)%10)]++(⟨#[]⟩:ByteArray)=IF k.val:=qi;exact this ⟨k,a⟩
def zqZ(k:Nat)(w)(d:k<10):Ca 193 #[I6 (k:Int)] w λe w'=>e=.returned (.string (IF k))/\Bw w w':=by
 have g:¬(k:Int)<0:=qd;have f:=Ai zrU;go_enter func193,ntmps193;go_wp2
 go_loopw [0,4,5] (λa b O wr=>(a=I6 (k:Int)/\b=.string ⟨#[]⟩/\O=.bool true/\wr=w)∨(a=I6 0/\b=.string (IF k)/\O=.bool false/\Bw w wr)) (λ_ _ O _=>match O with|.bool true=>1|_=>0)
 .exact .inl ⟨rfl,rfl,rfl,rfl⟩
 rcases hrel with⟨rfl,rfl,rfl,rfl⟩|⟨rfl,rfl,rfl,c⟩
 .have i:=f.o;go_wp2;refine⟨.inr ⟨by rw[show(k:Int)/10=0 by omega],?_,rfl,Ar⟩,qf⟩;exact congrArg Value.string (yo k d)
 go_wp2;go_ret;exact⟨rfl,c⟩
def ztg:(prog.info? 3).map (λi=>(i.zero,i.size,i.bytes))=some (some (I6 0),1,8):=qg
def Ur:As:=[1,2,1,2,3,0]
def zW(k)(a:k<6):∃n:Nat,n<=3/\Ur[k]?=some (n:Int)/\∀u,k=u%6->Qy u=n:=by
 have:k=0∨k=1∨k=2∨k=3∨k=4∨k=5:=qd;rcases this with rfl|rfl|rfl|rfl|rfl|rfl
 .exact⟨1,qd,rfl,λu h=>qZ⟩
 .exact⟨2,qd,rfl,λu h=>qZ⟩
 .exact⟨1,qd,rfl,λu h=>qZ⟩
 .exact⟨2,qd,rfl,λu h=>qZ⟩
 .exact⟨3,qd,rfl,λu h=>qZ⟩
 exact⟨0,qd,rfl,λu h=>qZ⟩
def Ju(K:AG)(n0:Nat)(xs:AL)(l:Bs)(j:Nat)(zs:As)(xs':AL)(lr:Bs):Prop:=MX n0 K xs l=(zs++(MX j K xs' lr).1,(MX j K xs' lr).2)
def Ju.step{K d xs l j c a O b}(h:Ju K d xs l (j+1) c a b)(e:O=(ED 2 K a b).1):Ju K d xs l j (c++[(O.length:Int)-1]) O (ED 2 K a b).2:=by
 unfold Ju at h⊢;rw[h];subst e;simp[MX]
def sQ(K l m g b base x0 x1 A E ka kn kc)(aW:g<b)(R:b<base)(a c xs w)(h:ES w g l)(Y:QB w b base x0 x1 A E a c xs)(i:LM K w g b base ka kn)(hbase:base<=w.heap.size)(aS:xs.length<=7*m)(aT:xs.length<=50+m)(hm:m<=100) :
  Ca 196 #[.pointer (some ⟨g,0,none⟩),.pointer (some ⟨b,0,none⟩),.slice ka kn kc] w λe w'=>∃r s f p q d ys,e=.returned (.slice r f.length s)/\w'.ownsRow w.heap.size 3 1 (.slice r f.length s) f.length ((f:As).map (Value.int .i64))/\QB w' b base x0 x1 A E p q d/\(d=xs++ys/\C9 K xs.length ys f/\f.length<=3/\d.length<=7*(m+f.length)/\d.length<=50+(m+f.length))/\Qs g b (I9 K xs l).2.2 (Value.slice a xs.length c).ownBlock w w'/\GN w.heap.size (Value.slice a xs.length c).ownBlock (Value.slice p d.length q).ownBlock/\Hid (f=(I9 K xs l).1/\d=(I9 K xs l).2.1):=by
 obtain⟨H,HQ,HK⟩:=AK h Y i;have hlt:=h.lt;have bc:b<w.heap.size:=Ap Y.1;clear h Y i;have D:=Fx w;have HR:=Ai (λo=>H.C (D o));go_enter func196,ntmps196;go_wp2_with fail;refine(Gv g l _ (HR _)).j ?_;rintro e w1 ⟨u,hu,rfl,z,aD⟩;have W:=Ai (DX z (heap_alloc_new _ _) qd);have ab:w.heap.size<w1.heap.size:=Ap W;obtain⟨k,ay⟩:=AF (u%6);have aZ:k<6:=qd;have aQ:(u:Int)%6=(k:Int):=qd;have bh:(k:Int)<6:=qd;have bj:(0:Int)<=(k:Int):=qd;obtain⟨v,bf,M,aC⟩:=zW k aZ;have a0:Hid (I9 K xs l=MX v K xs l.tail):=show _=_ from by unfold I9;rw[aD.o,aC u ay]
 clear aD aC;have aq:w1.cell? ⟨w.heap.size,k,none⟩=some (.int .i64 (v:Int)):=by
  have hb:=W.o;have:k=0∨k=1∨k=2∨k=3∨k=4∨k=5:=qd;rcases this with rfl|rfl|rfl|rfl|rfl|rfl<;>simp[Ur]at M<;>simp[World.cell?,hb,<-M]
 obtain⟨aM,aJ⟩:=An ((HQ.C (D _)).rs z qd qd) (Qs.of (b:=b) (o:=(Value.slice a xs.length c).ownBlock) ((Rs.of H (D _)).c z));clear z ay M W D HR H;go_wp2_with fail;clear aq aQ
 go_loopw [7,8] (λov J wr=>∃(j:Nat)(r:Af)(s:Nat)(f:As)(p:Af)(q:Nat)(d ys:AL)(x:Bs),J=.int .i64 (j:Int)/\ov=.slice r f.length s/\f.length+j=v/\wr.ownsRow w.heap.size 3 1 (.slice r f.length s) f.length (f.map (Value.int .i64))/\QB wr b base x0 x1 A E p q d/\(d=xs++ys/\C9 K xs.length ys f/\d.length<=7*(m+f.length)/\d.length<=50+(m+f.length))/\Qs g b x (Value.slice a xs.length c).ownBlock w wr/\GN w.heap.size (Value.slice a xs.length c).ownBlock (Value.slice p d.length q).ownBlock/\Ju K v xs l.tail j f d x) (λ_ J _=>(intOf J).toNat)
 .exact⟨v,none,0,[],a,c,xs,[],l.tail,rfl,rfl,qf,yJ _ _ _ _,aM,⟨qf,rfl,by simpa using aS,by simpa using aT⟩,aJ,GN.refl _ _,by unfold Ju;simp⟩
 obtain⟨j,r,s,f,p,q,d,ys,x,rfl,rfl,hj,n,hQ,⟨O,N,aV,aN⟩,y,hN,aK⟩:=hrel;have aA:=Ai aK;clear aK;have L:=Ai (And.intro O N);by_cases aY:j=0
 .subst aY;go_wp2;go_ret;have ai:I9 K xs l=(f,d,x):=by rw[a0.o,show MX v K xs l.tail=_ from aA.o];simp[MX]
  exact⟨r,s,f,p,q,d,ys,rfl,n,hQ,⟨L.1,L.2,qd,aV,aN⟩,by rw[ai];exact y,hN,show _/\_ from by rw[ai];exact⟨rfl,rfl⟩⟩
 have a9:(0:Int)<(j:Int):=qd;have aa:=y.rest.size;have az:fD 2=7:=rfl;obtain⟨HC,HO,a4,ax,aG⟩:=Ei (zil K g b base x0 x1 A E ka kn kc aW R 2 qd x p q d wr y.bh hQ (HK.qs y (λk i=>(HQ.2.1.lt k i).1)) qd (by rw[az];omega)) n hQ y hN;go_wp2_with fail;refine HC.j ?_;rintro e w2 ⟨a2,c2,G,aX,bd,aR,rfl,T,aO,aU,bg,aH⟩;rw[az]at aR;obtain⟨a6,a7,I,aL,a5⟩:=Ei aU aX (Za (t:=225) HO T qd qd (λk i=>A7 a4.2.1 i) qi) (ax.c T aG) (aG.c aO qd);have bi:=T.rest.size;have Z:=Fx w2;have aB:=Ai (λo=>Ci I (λk i=>(Z o).block k (I.lt k i).2));go_wp2_with (first|(at_builtin;refine Dp qh (.tmp 19) (.tmp 24) 30 qh w.heap.size 3 _ 1 8 underlying30 ztg qh qd _ f.length _ qh (aB _) (some ⟨_,0,none⟩) 1 1 qh [.int .i64 ((G.length:Int)-1)] qh (λe=>qo) (CH _ _ _ _ qf) qP qj qd qe ?_;intro a3 c3 w3 aP aF a8)|fail);go_roundw
 case rel=>
  obtain⟨U,aI,aE⟩:=a6.o;obtain⟨O,N⟩:=L.o;refine⟨j-1,a3,c3,f++[(G.length:Int)-1],a2,c2,G,ys++U,(ED 2 K d x).2,?_,qf,qe,by simpa using aP.o,(a7.C (Z _)).grown (t:=3) aF (λk i=>A7 (aB _) i) qi qi,⟨by rw[aI,O,yY],?_,qe,qe⟩,(aL.C (Z _)).grown aF (λk i=>(I.lt k i).1) hlt,a5,Ju.step (by rw[show j-1+1=j by omega];exact aA) aH⟩
  .exact P_
  .have:=C9.snoc N (B:=U) (by rw[O]at aE;simpa using aE);have e:G.length=xs.length+ys.length+U.length:=by rw[aI,O];simp[Kd]
   rw[e];exact this
 case measure=>(simp[intOf];omega)
variable{P:Prop}
def Xj(nm:ByteArray)(sal:Int)(p e a:Value):Value:=.agg #[.string nm,.int .i64 sal,p,e,a]
def RB(w:Aa)(b:Nat)(nm:ByteArray)(sal:Int)(p e a:Value):Prop:=Bk w b #[.string nm,.int .i64 sal,p,e,a] 53
def PB(w:Aa)(b:Nat)(neg:Bool)(cls:ByteArray)(t:Value):Prop:=Bk w b #[.bool neg,.string cls,t] 152
def PB.J{w b neg a t}(h:PB w b neg a t):(At w b 0 (.bool neg)/\At w b 1 (.string a)/\At w b 2 t)/\(∀j,w.frozen? ⟨b,j,none⟩=false)/\b<w.heap.size:=by
 unfold PB at h;refine⟨⟨?_,?_,?_⟩,λj=>?_,Ap h⟩<;>simp[World.cell?,World.frozen?,h]
abbrev Cm:Value:=.slice none 0 0
def RB.J{w b c sal p e a}(h:RB w b c sal p e a):(At w b 0 (.string c)/\At w b 1 (I6 sal)/\At w b 2 p/\At w b 3 e/\At w b 4 a)/\(∀j,w.frozen? ⟨b,j,none⟩=false)/\b<w.heap.size:=by
 unfold RB at h;refine⟨⟨?_,?_,?_,?_,?_⟩,λj=>?_,Ap h⟩<;>simp[World.cell?,World.frozen?,h]
def mZ:(prog.info? 9).map (λi=>(i.zero,i.size,i.bytes))=some (some (.string ⟨#[]⟩),1,16):=qg
def zm:(prog.info? 189).map (λi=>(i.zero,i.size,i.bytes))=some (some (.agg #[I6 0,I6 0,.string ⟨#[]⟩,I6 0,I6 0,.string ⟨#[]⟩]),6,64):=qg
def zq:(prog.info? 152).map (λi=>(i.zero,i.size,i.bytes))=some (some (.agg #[.bool false,.string ⟨#[]⟩,.slice none 0 0]),3,48):=qg
def zry(a:AG):∀u∈a.map Value.string,u.oneCell'=true:=by
 intro u hu;obtain⟨s,_,rfl⟩:=yv.1 hu;rfl
def zQ{w:Aa}{base n e a c xs}(h:w.ownsRow base e 1 (.slice a n c) n xs):(a=none->n=0)/\∀b,a=some b->∀(j:Nat)u,xs[j]?=some u->w.cell? (b.add j)=some u:=by
 constructor
 .intro O;rcases h.2 with⟨_,d⟩|⟨g,cap,l,f,_⟩
  .exact d
  subst O;simp at f
 intro b O j u hu;obtain⟨g,i,_,k,_⟩:=CG h hu;rw[i]at O;injection O with O;subst O;rw[Wu,Yj];exact k
def xZ(k)(a:k<10):(⟨#[114]⟩:ByteArray)++IF k=Fy k:=by
 have:∀k:Fin 10,(⟨#[114]⟩:ByteArray)++IF k.val=Fy k.val:=qi;exact this ⟨k,a⟩
def PK(L:List NY)(K:AG)(pos:Nat):Prop:=Fw (L.map Prod.fst) [] 1=.inr K/\Ag (L.map Prod.fst)=pos
def PK.nil:PK [] [] 0:=⟨rfl,rfl⟩
def PK.snoc{L K b H pos O neg a ts v}(h:PK L K pos)(e:Dd ts K=some H)(c:O=pos/\neg=true∨O=pos+1/\neg=false)(d:b=(if neg then K else H)):PK (L++[(⟨neg,a,ts⟩,v)]) b O:=by
 constructor
 .rw[yz,d];exact zmH h.1 (p:=⟨neg,a,ts⟩) e
 have:=h.2;unfold Ag at this⊢;rw[yz,List.countP_append,this];rcases c with⟨rfl,rfl⟩|⟨rfl,rfl⟩<;>rfl
def zN{K t}(h:Lq K t)(a:(t.w==2)=true):XJ t.F:=by
 refine⟨h.1.1,?_⟩;have b:=h.1.2.2
 grind[Co,E4,DA,Ng,El,Dk,AP,DC]
def U1:(prog.info? 227).map (λi=>(i.zero,i.size,i.bytes))=some (some (.agg #[I6 0,I6 0,.string ⟨#[]⟩,.slice none 0 0]),4,56):=qg
def AB(w:Aa)(b:Nat)(x0 x1 x2 x3:Value):Prop:=Bk w b #[x0,x1,x2,x3] 227
def il(h:P:=by refine⟨⟨?_,?_,?_,?_⟩,λj=>?_,Ap h⟩<;>simp[World.cell?,World.frozen?,h]):=h
def AB.J{w b x0 x1 c a}(h:AB w b x0 x1 c a):(At w b 0 x0/\At w b 1 x1/\At w b 2 c/\At w b 3 a)/\(∀j,w.frozen? ⟨b,j,none⟩=false)/\b<w.heap.size:=by
 unfold AB at h;exact il
def Qs.cG{g b o l O u v x}(h:Qs g b l O u v)(f:g<b):Qs g b l O u (v.setCell ⟨b,o,none⟩ x):=
 ⟨h.rest.setCell (yn _) _,λk d e h2 a=>(yD _ _ _ _ qw).c (h.block k d e h2 a),h.bh.cq (Au.setCell qe _)⟩
def QB.be{w:Aa}{b base d o:Nat}{x0 x1 g f:Value}{a:Af}{c:Nat}{xs:AL}{t:TypeId}{l:Bl}{k:Nat × Nat}{v:Value}(h:QB w b base x0 x1 g f a c xs)(hd:w.heap[d]?=some (.cells l t k))(i:t≠53)(j:t≠225):QB (w.setCell ⟨d,o,none⟩ v) b base x0 x1 g f a c xs:=by
 refine⟨(yD _ _ _ _ (λe=>?_)).c h.1,Is h.2.1 hd j,h.2.2⟩;have O:b=d:=e;subst O;exact Cw hd h.1 i
def AQ(K:AG)(pos:Nat)(F:AL->Prop)(w:Aa)(b base:Nat)(x0 x1 x2:Value)(Ys:List QU):Prop:=∃(aa:Af)(ac:Nat)(a:Af)(c:Nat)(xs:AL)(m:Nat),QB w b base x0 x1 x2 (.slice aa Ys.length ac) a c xs/\(xs.length<=7*m/\xs.length<=50+m/\m<=3*Ys.length/\GR K pos 0 xs (Ys.map Prod.fst))/\Fk w base aa ac Ys/\F xs
def Vj{K pos m m' xs ys}{a:List QU}{A v}(h:GR K pos 0 xs (a.map Prod.fst))(d:Et A=true/\A.args.length<=6/\EH pos A=true)(ht:C9 K xs.length ys A.args)(c:(xs++ys).length<=7*m')(b:(xs++ys).length<=50+m')(e:m'<=m+3)(O:m<=3*a.length) :
  (xs++ys).length<=7*m'/\(xs++ys).length<=50+m'/\m'<=3*(a++[(A,v)]).length/\GR K pos 0 (xs++ys) ((a++[(A,v)]).map Prod.fst):=by
 refine⟨c,b,qe,?_⟩;rw[yz];exact h.snoc d OK
def yt(pos):Et ⟨4,0,⟨#[]⟩,[]⟩=true/\(⟨4,0,⟨#[]⟩,[]⟩:Ac).args.length<=6/\EH pos ⟨4,0,⟨#[]⟩,[]⟩=true:=⟨by simp[Et,ME],qf,by simp[EH]⟩
def zh{pos:Nat}{z}(h:1<=z/\z<=(pos:Int))(a:pos<=3):Et ⟨2,z,⟨#[]⟩,[]⟩=true/\(⟨2,z,⟨#[]⟩,[]⟩:Ac).args.length<=6/\EH pos ⟨2,z,⟨#[]⟩,[]⟩=true:=⟨by simp[Et,ME,OS];omega,qf,by simp[EH];omega⟩
def xR{pos:Nat}{z a}(h:1<=z/\z<=(pos:Int))(c:pos<=3)(b:a.length<=3):Et ⟨3,z,⟨#[]⟩,a⟩=true/\(⟨3,z,⟨#[]⟩,a⟩:Ac).args.length<=6/\EH pos ⟨3,z,⟨#[]⟩,a⟩=true:=⟨by simp[Et,ME,OS];omega,qe,by simp[EH];omega⟩
def zx{pos b a}(h:XK b)(c:a.length<=3):Et ⟨1,0,b,a⟩=true/\(⟨1,0,b,a⟩:Ac).args.length<=6/\EH pos ⟨1,0,b,a⟩=true:=⟨by simp[Et,h.2],qe,by simp[EH]⟩
def Fk.snoc{w b base a e c d Y x}(h:Fk w base a c Y)(hx:QV w base x)(ho:b.ownsRow base 227 4 (.slice e (Y.length+1) d) (Y.length+1) (Y.flatMap Gx++Gx x))(g:w.grownBy b (Value.slice a Y.length c).ownBlock):Fk b base e d (Y++[x]):=by
 refine⟨Qm,λy hy=>?_⟩;have O:QV w base y:=by
  exact tG
 exact⟨O.1,JZ (t:=227) O.2 g (λk f=>A7 h.1 f) qi⟩
def oE{P:Aa->Prop}(Q:Int->Prop){w a b O x0 x1 d c}(e:AB w a x0 x1 d c)(f:Q O)(h:∀wt z,Q z->AB wt a (I6 b) (I6 z) d c->Turned w wt a->P wt):P ((w.setCell ⟨a,0,none⟩ (I6 b)).setCell ⟨a,1,none⟩ (I6 O)):=
 h _ O f (by have:=C7 (i:=1) (C7 (i:=0) e (I6 b)) (I6 O);simpa[AB] using this) (Turned.setCells [I6 b,I6 O] 0 w a)
def nL{P:Aa->Prop}{w a x0 x1 c b v}(d:AB w a x0 x1 c b)(h:∀wt,AB wt a v x1 c b->Turned w wt a->P wt):P (w.setCell ⟨a,0,none⟩ v):=
 h _ (by have:=C7 (i:=0) d v;simpa[AB] using this) (Turned.setCells [v] 0 w a)
def nS{P:Aa->Prop}{w a x0 x1 b d v}(c:AB w a x0 x1 b d)(h:∀wt,AB wt a x0 x1 b v->Turned w wt a->P wt):P (w.setCell ⟨a,3,none⟩ v):=
 h _ (by have:=C7 (i:=3) c v;simpa[AB] using this) (Turned.setCells [v] 3 w a)
def zss{P:Aa->Prop}{w a x0 x1 d b v}(c:AB w a x0 x1 d b)(h:∀wt,AB wt a x0 x1 v b->Turned w wt a->P wt):P (w.setCell ⟨a,2,none⟩ v):=
 h _ (by have:=C7 (i:=2) c v;simpa[AB] using this) (Turned.setCells [v] 2 w a)
def Rs.qs{g b l i o u v}(h:Qs g b l o u v)(w0)(O:Rs g i w0 u)(j:w0.heap.size<=b)(f:∀k,o=some k->w0.heap.size<=k):Rs g l w0 v:=
 ⟨⟨O.1.rest.c h.rest,λk d a=>(h.block k (yg d O.1.rest.size) (λe=>a Ij) qd (λe=>by have:=f k e;omega)).c (O.1.block k d a)⟩,h.bh⟩
def PO.qs{w w' l base g b o a c L cb}(h:PO w base a c L)(p:Qs g b l o w w')(s:g<base)(q:Bk w b cb 53)(r:o=none):PO w' base a c L:=by
 subst r;have key:∀{e:TypeId}{m:Nat}{v:Value}{n:Nat}{xs:Aj},w.ownsRow base e m v n xs->e≠53->w'.ownsRow base e m v n xs:=λd j=>Ci d λk i=>p.block k (d.lt k i).2 (by have:=(d.lt k i).1;omega) (λe=>by
  obtain⟨cc,O⟩:=A7 d i;subst e;exact Cw O q j) qf
 exact⟨key h.1 qi,λx f=>⟨(h.2 x f).1,key (h.2 x f).2.1 qi,(h.2 x f).2.2⟩⟩
def ND{n c:Nat}(h:n%8=c):(n:Int)%8=(c:Int):=qd
def zK:(prog.info? 53).map (·.size)=some 5:=qg
def tO(h:P:=by exact⟨2,by omega,rfl,(y8 _ _).alloc (yA _) _,show _=_ from by simp[Jk,h6]⟩):=h
def tQ(h:P:=by exact⟨1,by omega,rfl,(y8 _ _).alloc (yA _) _,show _=_ from by simp[Jk,h6]⟩):=h
def Xf(h:P:=by have:=C7 (i:=4) af.1 (.slice a9 (Ys.length+1) c9);simpa using this):=h
def zit(g k:Nat)(l w)(h:ES w g l)(a:k<10) :
  Ca 141 #[.pointer (some ⟨g,0,none⟩),.int .i64 (k:Int)] w λe w'=>∃x:Fi,e=.returned (Xj x.nm x.aq x.pv x.ev x.av)/\(Sz k x.ru/\Hid (x.ru=(MY (Fy k) l).1))/\(-9223372036854775808<=x.aq/\x.aq<=9223372036854775807)/\LJ w' w.heap.size x/\Rs g (MY (Fy k) l).2 w w':=by
 have H:=Ai h;have hlt:=h.lt;clear h;have HA:=Fx w;have et:=Ai (λo=>H.C (HA o));go_enter func141,ntmps141;go_wp2_with fail;refine(Gv g l _ (et _)).j ?_;rintro e w1 ⟨n1,ga,rfl,cK,cR⟩;obtain⟨cY,R1⟩:=An (DX cK (heap_alloc_new _ _) qd) ((Rs.of H (HA _)).c cK);have bb:w.heap.size<w1.heap.size:=Ap cY;clear cK HA et H;go_wp2_with fail;refine(zqZ k w1 a).j ?_;rintro e w2 ⟨rfl,bX⟩;have fU:=bX.size;obtain⟨dB,R2⟩:=An ((bX.block _ bb).c cY) (R1.C bX);clear bX cY R1;go_upto_if 28 with fail;refine BF ?_;intro w3 bW dL;obtain⟨nm,dd⟩:=AF ((⟨#[114]⟩:ByteArray)++IF k);have dg:=Ai (show nm=Fy k from by rw[dd];exact xZ k a);have fP:=bW.size;have cI:=Ai (show RB w3 w.heap.size _ _ _ _ _ from(bW.block _ qd).c dB);have Q3:=Ai (show RB w3 w2.heap.size _ _ _ _ _ from dL);have R3:=Ai (R2.C bW);clear bW dL dB R2
 go_cut [] (λn=>∃sal,(-9223372036854775808<=sal/\sal<=9223372036854775807)/\Hid (sal=Nv (Bo l))/\RB n w2.heap.size (⟨#[114]⟩++IF k) sal Cm Cm Cm/\RB n w.heap.size ⟨#[]⟩ 0 Cm Cm Cm/\Rs g l.tail w n)
 .obtain⟨⟨f0,f1,f2,f3,f4⟩,z,dV⟩:=Q3.J;have z1:=z 1;clear z;by_cases cm:n1=255
  .subst cm;go_wp2;go_meet;exact⟨-9223372036854775808,qd,show _=_ from by rw[cR.o];rfl,by have:=C7 (i:=1) Q3 (.int .i64 (-9223372036854775808));simpa[RB] using this,(yD _ _ _ _ qe).c cI,R3.am qd hlt⟩
  have e8:¬(n1:Int)=255:=qd;go_wp2;go_meet;exact⟨_,qd,show _=_ from by rw[cR.o];unfold Nv;rw[if_neg cm];omega,Q3,cI,R3⟩
 obtain⟨sal,dN,cZ,hq,bj,hR⟩:=hcut;obtain⟨Q4,eo,R4⟩:=AK hq bj hR;obtain⟨n0,dR⟩:=AF (1+n1/5%4);have fl:=Ai dR;have eA:1+(n1:Int)/5%4=(n0:Int):=qd;have fK:1<=n0/\n0<=4:=qd;obtain⟨d,ed⟩:=AF w2.heap.size;have fA:w.heap.size<d:=qd;have f7:=hR.1.rest.size;rw[<-ed]at Q4⊢;clear hq bj hR Q3 cI R3 dR ed;rw[<-dd]at Q4;clear dd;go_wp2_with fail;clear eA
 go_loopw [7,8,9] (λeF kv nv wr=>∃(pos:Nat)(L:List NY)(pa:Af)(pc:Nat)(ka:Af)(kn kc:Nat)(K:AG)(lr:Bs),eF=.int .i64 (pos:Int)/\kv=.slice ka kn kc/\nv=.int .i64 ((n0:Int)-(L.length:Int))/\pos<=3/\pos<=L.length/\L.length<=6/\(pos=0->L.length<=5)/\RB wr d nm sal (.slice pa L.length pc) Cm Cm/\RB wr w.heap.size ⟨#[]⟩ 0 Cm Cm Cm/\PO wr w.heap.size pa pc L/\IK K wr w.heap.size ka kn kc/\kn<=3*L.length/\PK L K pos/\Rs g lr w wr/\Ll n0 l.tail (L.map Prod.fst) K pos lr) (λ_ _ nv _=>(intOf nv+10).toNat)
 .exact⟨0,[],none,0,none,0,0,[],l.tail,rfl,rfl,qf,qd,qf,qf,qf,Q4,eo,PO.nil _ _,⟨qd,[],⟨rfl,rfl⟩,qf,yJ _ _ _ _⟩,qf,PK.nil,R4,Ll.nil⟩
 obtain⟨pos,L,pa,pc,ka,kn,kc,K,lr,rfl,rfl,rfl,de,fZ,cV,fu,hq,bj,ec,bu,gd,eB,hR,d4⟩:=hrel;have d9:=Ai d4;clear d4;have dq:=Ai eB;clear eB;obtain⟨Q,bZ,PL,KO,R⟩:=Ei hq bj ec bu hR;have dG:=hR.1.rest.size;clear hq bj ec bu hR Q4 eo R4;by_cases dX:L.length<n0∨pos=0
 .go_upto_region 8 with fail
  go_cut [39] (λc n=>c=.bool true/\wr=n)
  .by_cases fT:L.length<n0
   .have d8:(0:Int)<(n0:Int)-(L.length:Int):=qd;go_wp2;go_meet;exact⟨rfl,rfl⟩
   have d8:¬(0:Int)<(n0:Int)-(L.length:Int):=qd;have ge:((pos:Int)==0)=true:=by simp;omega
   go_wp2;go_meet;exact⟨qf,rfl⟩
  obtain⟨cX,dr⟩:=hcut;subst cX;subst dr;have eb:=Ai R.2;go_wp2_with fail;refine(Gv g lr _ eb).j ?_;rintro e wa ⟨n2,fM,rfl,cE,dx⟩;have RA:=Ai cE;have fN:=cE.1.rest.size;clear cE eb;go_upto_region 11 with fail
  go_cut [11] (λpv n=>∃(pb:Nat)(neg:Bool)(b:ByteArray),pv=.pointer (some ⟨pb,0,none⟩)/\wr.heap.size<=pb/\PB n pb neg b Cm/\XK b/\(neg=false->pos≠3)/\Rs g lr.tail wr n/\Hid (neg=(n2%4==3||pos==3)/\b=IG n2))
  .by_cases ew:n2%4=3
   .go_wp2_with fail;refine(Z4 n2 wa).j ?_;rintro e wb ⟨b,aI,rfl,ad,aJ⟩;have cf:=Ai (RA.C ad);have eN:=ad.size;clear ad;go_wp2;go_meet;exact⟨wb.heap.size,true,b,rfl,qd,heap_alloc_new _ _,aI,qf,cf.C ((y8 _ _).alloc (yA _) _),show _/\_ from⟨by simp[ew],aJ⟩⟩
   have fG:((n2:Int)%4==3)=false:=by simp;omega
   go_wp2_with fail;refine(Z4 n2 wa).j ?_;rintro e wb ⟨b,aI,rfl,ad,aJ⟩;have cf:=Ai (RA.C ad);have eN:=ad.size;clear ad;cases aX:((pos:Int)==3)
   rotate_left
   .have HP:=Ai aX;go_wp2;go_meet;exact⟨wb.heap.size,true,b,rfl,qd,heap_alloc_new _ _,aI,qf,cf.C ((y8 _ _).alloc (yA _) _),show _/\_ from⟨by have h3:pos=3:=(by have:=beq_iff_eq.1 HP;omega);simp[h3],aJ⟩⟩
   have HP:=Ai aX;go_wp2;go_meet;exact⟨wb.heap.size,false,b,rfl,qd,heap_alloc_new _ _,aI,λ_ hh=>by subst hh;simp at aX,cf.C ((y8 _ _).alloc (yA _) _),show _/\_ from⟨by have h3:¬pos=3:=(λh=>by have:=HP.o;rw[h]at this;simp at this);simp[h3,ew],aJ⟩⟩
  obtain⟨pb,neg,b,rfl,an,bt,aI,ag,b4,en⟩:=hcut;obtain⟨wp,rfl⟩:=AF wc;obtain⟨P1,RP,Q1⟩:=AK bt b4 (show RB wp d nm sal (.slice pa L.length pc) Cm Cm from DX b4 Q qd);have f5:=b4.1.rest.size;clear bt b4 RA;go_upto_region 12 with fail
  go_cut [61] (λc n=>c=.bool (((L.length:Int)==5)&&((pos:Int)==0))/\wp=n)
  .obtain⟨⟨f0,f1,f2,f3,f4⟩,z,dV⟩:=Q1.J;clear z;cases h5:((L.length:Int)==5)
   .go_wp2;go_meet;exact⟨by simp[h5],rfl⟩
   cases eE:((pos:Int)==0)
   .go_wp2;go_meet;exact⟨by simp[h5,eE],rfl⟩
   go_wp2;go_meet;exact⟨by simp[h5,eE],rfl⟩
  obtain⟨cX,dr⟩:=hcut;subst cX;subst dr;go_upto_if 61 with fail
  go_cut [] (λn=>∃E,PB n pb E b Cm/\(E=false->pos≠3)/\(L.length=5->pos=0->E=false)/\Rs g lr.tail wr n/\Hid (E=(if L.length=5/\pos=0 then false else(n2%4==3||pos==3))))
  .obtain⟨⟨p0,p1,p2⟩,z,fF⟩:=P1.J;have z0:=z 0;clear z;cases a0:(((L.length:Int)==5)&&((pos:Int)==0))
   .go_wp2;go_meet;exact⟨neg,P1,ag,λh1 h2=>by rw[h1,h2]at a0;simp at a0,RP,show _=_ from by rw[if_neg (λh=>by rw[h.1,h.2]at a0;simp at a0)];exact en.1⟩
   go_wp2;go_meet;refine⟨false,?_,λ_ h3=>by rw[h3]at a0;simp at a0,λ_ _=>rfl,RP.am an qd,show _=_ from by rw[if_pos (by simp at a0;omega)]⟩;have:=C7 (i:=0) P1 (.bool false);simpa[PB] using this
  obtain⟨E,aF,cQ,df,cS,fg⟩:=hcut;obtain⟨wq,rfl⟩:=AF wc;obtain⟨P2,RQ⟩:=An aF cS;have e7:=cS.1.rest.size;have aV:g<wr.heap.size:=qd;obtain⟨bV,ks,cv,cu,bJ⟩:=KO.rs RQ hlt;obtain⟨dt,dl,ez⟩:=AK (zQ bJ) cv cu;clear aF cS bJ cv cu P1 RP Q1 ag;go_upto_region 16 with(first|(at_builtin;refine Dp qh (.tmp 63) (.tmp 64) 185 qh wq.heap.size 9 _ 1 16 underlying185 mZ qh qd _ 0 [] qh (yJ _ _ _ _) ka kn kc qh (ks.map Value.string) (by simp[dl.o.2]) dt.1 dt.2 (zry ks) qj qd (yA _) ?_;intro a3 c3 w3 er ci fj;simp only[Yj])|fail);obtain⟨RH,ee,P3⟩:=AK (RQ.grown ci (λk a=>by simp[Value.ownBlock]at a) aV) (show IK K w3 wr.heap.size a3 kn c3 from⟨bV,ks,dl,ez,by have:=er.o;rw[Yj,Yg]at this;exact C4 this e7⟩) (show PB w3 pb E b Cm from(ci.block pb (Ap P2) Se).c P2);have fz:=ci.size;clear er ci fj dt dl ez P2 RQ
  go_cut [13] (λmv n=>∃m0:Nat,m0<=3/\mv=.int .i64 (m0:Int)/\Below w3.heap.size w3 n/\Hid (Jk n2=m0))
  .have h6:n2/12%6=0∨n2/12%6=1∨n2/12%6=2∨n2/12%6=3∨n2/12%6=4∨n2/12%6=5:=qd;rcases h6 with h6|h6|h6|h6|h6|h6
   all_goals
    go_wp2;go_meet
   .exact tQ
   .exact tO
   .exact tO
   .exact tQ
   .exact⟨0,qd,rfl,(y8 _ _).alloc (yA _) _,show _=_ from by simp[Jk,h6]⟩
   exact⟨3,qd,rfl,(y8 _ _).alloc (yA _) _,show _=_ from by simp[Jk,h6]⟩
  obtain⟨m0,bM,rfl,bL,eY⟩:=hcut;obtain⟨w4,rfl⟩:=AF wc;obtain⟨RI,SI,PI⟩:=AK (RH.C bL) (show IK K w4 wr.heap.size a3 kn c3 from by obtain⟨W,Y,q3,q4,q5⟩:=ee.o;exact⟨W,Y,q3,q4,AZ q5 bL⟩) (show PB w4 pb E b Cm from(bL.block pb (Ap P3)).c P3);have fH:=bL.size;clear bL RH ee P3;obtain⟨wR,rfl⟩:=AF wr;go_wp2
  go_loopw [12,13] (λhv mv wr=>∃(j:Nat)(ha:Af)(hn hc:Nat)(ta:Af)(tc:Nat)(ts:A3)(Hh:AG)(li:Bs),mv=.int .i64 (j:Int)/\hv=.slice ha hn hc/\ts.length+j=m0/\IK Hh wr wR.heap.size ha hn hc/\hn<=kn+ts.length/\Dd ts K=some Hh/\PB wr pb E b (.slice ta ts.length tc)/\wr.ownsRow wR.heap.size 189 6 (.slice ta ts.length tc) ts.length (ts.flatMap GS)/\(∀t∈ts,QK t)/\Rs g li wR wr/\Lg m0 K lr.tail ts j Hh li) (λ_ mv _=>(intOf mv).toNat)
  .exact⟨m0,a3,kn,c3,none,0,[],K,lr.tail,rfl,rfl,qf,SI,qf,rfl,PI,yJ _ _ _ _,qf,RI,Lg.nil⟩
  obtain⟨j,ha,hn,hc,ta,tc,ts,Hh,li,rfl,rfl,hj,bu,fY,dO,bt,ea,cy,cL,dM⟩:=hrel;have d6:=Ai dM;clear dM;obtain⟨HJ,eh⟩:=An hj dO;clear dO;have eM:ts.length<=3:=qd;have fv:j<=3:=qd;obtain⟨bU,du,ce,cD,Ri⟩:=Ei bu bt ea cy cL;have fW:=cL.1.rest.size;clear hj bu bt ea cy cL SI PI RI;by_cases cH:j=0
  .clear HJ;subst cH;obtain⟨RW,Qi,em,b8,el,d5,NX⟩:=LG (R.c Ri) (show RB wr d nm sal (.slice pa L.length pc) Cm Cm from DX Ri Q qd) (show RB wr w.heap.size ⟨#[]⟩ 0 Cm Cm Cm from DX Ri bZ qd) (PL.rs Ri hlt) (KO.rs Ri hlt) (show IK Hh wr w.heap.size ha hn hc from by obtain⟨W,Y,q3,q4,q5⟩:=bU.o;exact⟨W,Y,q3,q4,C4 q5 dG⟩) (show H5 wr w.heap.size (⟨E,b,ts⟩,.slice ta ts.length tc) from⟨⟨ta,tc,rfl⟩,C4 ce dG,aI,eM,cD⟩);obtain⟨⟨p0,p1,p2⟩,z,fE⟩:=du.J;clear z bU ce cD Q bZ PL KO R;go_upto_if 95 with fail
   go_cut [7,8] (λpv kv n=>∃(aA:Nat)(bI:Af)(bf bw:Nat)(K':AG),pv=.int .i64 (aA:Int)/\kv=.slice bI bf bw/\(aA=pos/\E=true∨aA=pos+1/\E=false)/\IK K' wr w.heap.size bI bf bw/\K'=(if E then K else Hh)/\bf<=3*L.length+3/\wr=n)
   .cases bc:E
    .rw[bc]at p0;go_wp2;go_meet;exact⟨pos+1,ha,hn,hc,Hh,qm,rfl,.inr ⟨rfl,by first|rfl|exact bc⟩,d5,by simp[bc],qd,rfl⟩
    rw[bc]at p0;go_wp2;go_meet;exact⟨pos,ka,kn,kc,K,rfl,rfl,.inl ⟨rfl,by first|rfl|exact bc⟩,el,by simp[bc],qd,rfl⟩
   obtain⟨aA,bI,bf,bw,K',rfl,rfl,bl,aO,dQ,fB,fd⟩:=hcut;subst fd;obtain⟨eV,dy⟩:=An aO bl;clear aO bl el d5;obtain⟨⟨f0,f1,f2,f3,f4⟩,z,eH⟩:=Qi.J;clear z;have aR:=Fx wr;have TY:=Ai (λo k a=>A7 (AZ b8.1 (aR o)) (k:=k) a);go_wp2_with (first|(at_builtin;refine Dp qh (.tmp 100) (.tmp 102) 49 qh w.heap.size 152 _ 3 48 underlying49 zq qh qd _ L.length _ qh (AZ b8.1 (aR _)) (some ⟨_,0,none⟩) 1 1 qh (DR (⟨E,b,ts⟩,.slice ta ts.length tc)) qh (λe=>qo) (CH _ _ _ _ qf) (zo8 _ rfl) qj qd qe ?_;intro a9 c9 G aB A bp;have Q9:=Ai (show RB G d nm sal (.slice pa L.length pc) Cm Cm from E5 (((aR _).block _ eH).c Qi) A (TY _) qi);obtain⟨⟨k0,k1,k2,k3,k4⟩,z,eX⟩:=Q9.J;have z2:=z 2;clear z)|fail);go_roundw
   case rel=>
    have hS9:IK K' G w.heap.size bI bf bw:=by
     obtain⟨W,Y,q3,q4,q5⟩:=eV.o;exact⟨W,Y,q3,q4,JZ (AZ q5 (aR _)) A (TY _) qi⟩
    have ef:PO G w.heap.size a9 c9 (L++[(⟨E,b,ts⟩,.slice ta ts.length tc)]):=PO.snoc (b8.C (aR _)) (NX.C (aR _)) aB A;have eu:RB G w.heap.size ⟨#[]⟩ 0 Cm Cm Cm:=E5 (((aR _).block _ (Ap em)).c em) A (TY _) qi;have eI:Rs g li w G:=(RW.C (aR _)).grown A (λk a=>(b8.1.lt k a).1) hlt;have fh:aA<=3/\aA<=L.length+1/\(aA=0->L.length+1<=5):=by
     rcases dy.o with⟨h1,h2⟩|⟨h1,h2⟩
     .refine⟨qd,qd,λh0=>?_⟩;have h5:=fu qd;by_cases eW:L.length=5
      .have:=df eW qd;rw[h2]at this;cases this
      omega
     have:=cQ h2;exact⟨qd,qd,λh0=>qd⟩
    refine⟨aA,L++[(⟨E,b,ts⟩,.slice ta ts.length tc)],a9,c9,bI,bf,bw,K',li,rfl,rfl,?_,fh.1,qe,qe,qe,?_,?_,?_,?_,qe,?_,eI.am qd hlt,(by rw[yz];exact Ll.step d9 qf cV dX (by rw[dx.o];exact fg) (by rw[dx.o];exact en.2) (by rw[dx.o,eY.o];exact d6.cf) dQ dy)⟩
    .simp;omega
    .have:=C7 (i:=2) Q9 (.slice a9 (L.length+1) c9);simpa[RB] using this
    .exact(yD _ _ _ _ qe).c eu
    .exact ef.set Q9 qi qi
    .obtain⟨W,Y,q3,q4,q5⟩:=hS9;exact⟨W,Y,q3,q4,Is q5 Q9 qi⟩
    .exact dq.snoc eh dy dQ
   case measure=>(simp[intOf];omega)
  have fk:(0:Int)<(j:Int):=qd;go_wp2_with fail;refine(ziw Hh g li ha hn hc wr Ri.2 (bU.on aV)).j ?_;rintro e w5 ⟨t,⟨ht,eJ⟩,rfl,a8⟩;obtain⟨ey,cO,dC,R5⟩:=BP (bU.rs a8 aV) (show PB w5 pb E b (.slice ta ts.length tc) from DX a8 du qd) (My ce a8 aV) (Ri.c a8);have e9:=a8.1.rest.size;rw[show OD t=.agg #[.int .i64 t.w,.int .i64 t.op,.string t.F,.int .i64 t.val.w,.int .i64 t.val.num,.string t.val.O] from rfl];clear a8 bU du ce Ri;go_upto_if 81 with fail;refine BF ?_;intro w6 bi ap;obtain⟨dz,cd,dw,R6,bk⟩:=Ei (show IK Hh w6 wR.heap.size ha hn hc from by obtain⟨W,Y,q3,q4,q5⟩:=ey.o;exact⟨W,Y,q3,q4,AZ q5 bi⟩) (show PB w6 pb E b (.slice ta ts.length tc) from(bi.block pb (Ap cO)).c cO) (AZ dC bi) (R5.C bi) ap;have f8:=bi.size;clear bi ap ey cO dC R5
  go_cut [12] (λhv n=>∃(bD:Af)(bh bS:Nat)(H':AG),hv=.slice bD bh bS/\IK H' n wR.heap.size bD bh bS/\bh<=kn+ts.length+1/\H'=(if t.w==2 then Hh++[t.F] else Hh)/\PB n pb E b (.slice ta ts.length tc)/\n.ownsRow wR.heap.size 189 6 (.slice ta ts.length tc) ts.length (ts.flatMap GS)/\Bk n (w5.heap.size) #[.int .i64 t.w,.int .i64 t.op,.string t.F,.int .i64 t.val.w,.int .i64 t.val.num,.string t.val.O] 189/\Rs g (E9 Hh li).2 wR n)
  .obtain⟨t0,t1,t2,t3,t4,t5⟩:=EK bk;cases dk:(t.w==2)
   .go_wp2;go_meet;exact⟨ha,hn,hc,Hh,rfl,dz,qd,by simp[dk],cd,dw,bk,R6⟩
   obtain⟨W,hs,Y,q3,q4⟩:=dz.o;obtain⟨cP,ek,fi⟩:=AK q4 Y q3;have eG:hn<=1000:=W;have bd:=Fx w6;have dS:w5.heap.size<w6.heap.size:=Ap bk;clear W Y q3 q4;go_wp2_with (first|(at_builtin;refine Dp qh (.tmp 82) (.tmp 85) 185 qh wR.heap.size 9 _ 1 16 underlying185 mZ qh qd _ hn _ qh (AZ cP (bd _)) (some ⟨_,0,none⟩) 1 1 qh ([.string t.F]) qh (λe=>qo) (CH _ _ _ _ qf) qP qj qd qe ?_;intro a7 c7 w7 a2 ae be)|fail);go_meet;have ty:=λk a=>A7 (AZ cP (bd (.cells #[.string t.F] 9))) (k:=k) a;exact⟨a7,hn+1,c7,hs++[t.F],rfl,⟨qd,hs++[t.F],⟨rfl,by simp[ek.o.2]⟩,by intro x hx;rcases yp.1 hx with hx|hx;exact fi x hx;simp at hx;exact hx▸zN ht dk,by simpa using a2.o⟩,qd,by rw[ek.o.1];simp[dk],E5 (((bd _).block _ (Ap cd)).c cd) ae ty qi,JZ (AZ dw (bd _)) ae ty qi,E5 (((bd _).block _ dS).c bk) ae ty qi,(R6.C (bd _)).grown ae (λk a=>(cP.lt k a).1) aV⟩
  obtain⟨bD,bh,bS,H',rfl,aO,fy,dW,aF,cr,bH,cN⟩:=hcut;obtain⟨w8,rfl⟩:=AF wc;obtain⟨eR,eS,cz,R8⟩:=BP aO aF cr cN;have fw:w5.heap.size<w8.heap.size:=Ap bH;have dZ:pb<w8.heap.size:=Ap aF;have fQ:=cN.1.rest.size;obtain⟨t0,t1,t2,t3,t4,t5⟩:=EK bH;obtain⟨⟨p0,p1,p2⟩,z,_⟩:=aF.J;have bE:=Fx w8;have TY:=Ai (λo k a=>A7 (AZ cz (bE o)) (k:=k) a);clear aO aF cr bH cN z dz cd dw R6 bk;go_wp2_with (first|(at_builtin;refine Dp qh (.tmp 88) (.tmp 90) 150 qh wR.heap.size 189 _ 6 64 underlying150 zm qh qd _ ts.length _ qh (AZ cz (bE _)) (some ⟨_,0,none⟩) 1 1 qh (GS t) qh (λe=>qo) (CH _ _ _ _ qf) (RY t) qj qd qe ?_;intro a9 c9 G aB A bp;have ch:=Ai (show PB G pb E b (.slice ta ts.length tc) from E5 (((bE _).block _ dZ).c eS) A (TY _) qi);obtain⟨⟨k0,k1,k2⟩,z,eX⟩:=ch.J;have z2:=z 2;clear z)|fail);go_roundw
  case rel=>
   have hS9:IK H' G wR.heap.size bD bh bS:=by
    obtain⟨W,Y,q3,q4,q5⟩:=eR.o;exact⟨W,Y,q3,q4,JZ (AZ q5 (bE _)) A (TY _) qi⟩
   refine⟨j-1,bD,bh,bS,a9,c9,ts++[t],H',(E9 Hh li).2,?_,rfl,Sg,?_,qe,by rw[dW];exact zkU eh ht.2,?_,?_,?_,?_,Lg.step d6 qd eJ dW⟩
   .exact P_
   .obtain⟨W,Y,q3,q4,q5⟩:=hS9;exact⟨W,Y,q3,q4,Is q5 ch qi⟩
   .have:=C7 (i:=2) ch (.slice a9 (ts.length+1) c9);simpa[PB] using this
   .have:=Is (o:=2) (x:=.slice a9 (ts.length+1) c9) aB ch qi;simpa using this
   .intro x hx;rcases yp.1 hx with hx|hx
    .exact cD x hx
    simp at hx;exact hx▸ht.1
   .exact((R8.C (bE _)).grown A (λk a=>(cz.lt k a).1) aV).am an aV
  case measure=>(simp[intOf];omega)
 have fL:¬(0:Int)<(n0:Int)-(L.length:Int):=qd;have fR:((pos:Int)==0)=false:=by simp;omega
 have cA:1<=pos:=qd;have gc:1<=L.length:=qd;obtain⟨wz,rfl⟩:=AF wr;go_wp2_with fail;refine(Gv g lr wz R.2).j ?_;rintro e wL ⟨n3,f6,rfl,aU,eO⟩;obtain⟨QL,dT,e0⟩:=AK (show RB wL d nm sal (.slice pa L.length pc) Cm Cm from DX aU Q qd) (show RB wL w.heap.size ⟨#[]⟩ 0 Cm Cm Cm from DX aU bZ qd) (PL.rs aU hlt);obtain⟨cB,RL⟩:=An ((KO.rs aU hlt).q (g:=g) (B:=wL.heap.size) hlt (show wL.heap[d]?=some (.cells _ 53 _) from QL) qi (yA _)) (R.c aU);have fS:=aU.1.rest.size;have aq:g<wL.heap.size:=qd;have aK:g<d:=qd;have a5:d<wL.heap.size:=Ap QL;have eZ:=Ai (show∀s∈K,AP s.data.toList=true fromλs hs=>by obtain⟨_,ks,⟨rfl,_⟩,q,_⟩:=KO.o;exact(q s hs).2);clear aU Q bZ PL KO R;obtain⟨n5,dK⟩:=AF (1+n3%3);have fe:=Ai dK;have eU:Hid (Mw 7 (1+Bo l/5%4) [] 0 0 l.tail=(L.map Prod.fst,K,pos,lr)):=show _=_ from by rw[cR.o,<-fl.o];exact d9.cf (by simpa using cV) (by simpa using dX)
 have dP:1+(n3:Int)%3=(n5:Int):=qd;have fC:n5<=3:=qd;clear dK;go_wp2_with fail;clear dP
 go_loopw [15] (λnv wr=>∃(j:Nat)(Ys:List QU)(la:Bs),nv=.int .i64 (j:Int)/\Ys.length+j=n5/\AQ K pos (λxs=>Hc n5 K pos lr.tail (Ys.map Prod.fst) j xs la) wr d wL.heap.size (.string nm) (.int .i64 sal) (.slice pa L.length pc) Ys/\Qs g d la none wL wr) (λnv _=>(intOf nv).toNat)
 .exact⟨n5,[],lr.tail,rfl,qf,⟨none,0,none,0,[],0,⟨QL,yJ _ _ _ _,λx hx=>qF⟩,⟨qf,qf,qf,rfl⟩,Fk.nil _ _,Hc.nil⟩,⟨y8 _ _,λ_ _ _ _ _=>rfl,RL.2⟩⟩
 obtain⟨j,Ys,la,rfl,hj,⟨U,M,a1,c1,aw,m,eD,⟨b6,b7,bM,eC⟩,ei,d7⟩,c8⟩:=hrel;have bR:=Ai (show Hc n5 K pos lr.tail (Ys.map Prod.fst) j aw la from d7);clear d7;have bm:=Ai eC;clear eC;have HJ:=Ai hj;have fv:j<=3:=qd;have f9:Ys.length<=3:=qd;obtain⟨bG,bn,bg⟩:=AK eD ei c8;have fJ:=c8.rest.size;clear hj eD ei c8;by_cases cH:j=0
 .clear HJ;subst cH;obtain⟨dY,ej,Rz⟩:=AK (show RB wr w.heap.size ⟨#[]⟩ 0 Cm Cm Cm from(bg.block _ (Ap dT) qd qd qf).c dT) (e0.qs bg hlt QL rfl) (Rs.qs bg w RL qd (λk a=>by cases a));have eg:Hid (MY (Fy k) l=(⟨nm,sal,L.map Prod.fst,aw,Ys.map Prod.fst⟩,la)):=show _=_ from by rw[<-dg.o];exact zsi cZ eU (by rw[eO.o,<-fe.o];exact bR.cf)
  obtain⟨⟨q0,W,Y,q3,q4⟩,z,fX⟩:=(show RB wr d nm sal (.slice pa L.length pc) (.slice a1 aw.length c1) (.slice U Ys.length M) from bG.1).J;clear z;go_wp2_with (first|(refine Ec qh 53 (.tmp 4) (.tmp 162) qh w.heap.size [.string nm,.int .i64 sal,.slice pa L.length pc,.slice a1 aw.length c1,.slice U Ys.length M] qh qh _ 53 dY qh zK (by intro u hu;simp at hu;rcases hu with rfl|rfl|rfl|rfl|rfl<;>rfl) ?_;intro wy fq dJ)|fail);obtain⟨⟨f0,f1,f2,f3,f4⟩,z,fO⟩:=(show RB wy w.heap.size nm sal (.slice pa L.length pc) (.slice a1 aw.length c1) (.slice U Ys.length M) from fq).J;refine bodyPost_ret (v:=Xj nm sal (.slice pa L.length pc) (.slice a1 aw.length c1) (.slice U Ys.length M)) (by simp[results,results141,go_sem,f0,f1,f2,f3,f4,Xj]) rfl ⟨⟨nm,sal,.slice pa L.length pc,.slice a1 aw.length c1,.slice U Ys.length M,L,aw,Ys⟩,rfl,⟨⟨dg,K,pos,⟨?_,by simpa[Fi.ru] using cV,?_,dq.1,?_,dq.2,⟨cA,de⟩,by simp[Fi.ru];omega,by simp only[Fi.ru];omega,bm⟩⟩,show _=_ from by rw[eg.o];rfl⟩,dN,?_,by rw[eg.o];exact Rz.N dJ (yA _) hlt⟩
  .show AP nm.data.toList=true;rw[dg.o];exact ztM k a
  .intro p hp;obtain⟨x,hx,rfl⟩:=yv.1 hp;have hX:=ej.2 x hx;simp only[Ej,ym,decide_eq_true_eq,Y7];exact⟨hX.2.2.1.2,by have:=hX.2.2.2.1;omega,λt ht=>(hX.2.2.2.2 t ht).2.2⟩
  .exact eZ
  have sm:BO Qg w.heap.size wr wy:=BO.kept (λk a _=>dJ.block k a) dY qi;have ao:Fk wr w.heap.size U M Ys:=⟨C4 bn.1 qd,λy hy=>⟨(bn.2 y hy).1,C4 (bn.2 y hy).2 qd⟩⟩
  exact LJ.same ⟨⟨pa,pc,rfl,ej⟩,⟨a1,c1,rfl,C4 bG.2.1 qd,bG.2.2⟩,U,M,rfl,ao⟩ sm
 have fk:(0:Int)<(j:Int):=qd;go_wp2_with fail;refine(Gv g la wr bg.bh).j ?_;rintro e w4 ⟨D,fm,rfl,bA,b5⟩;obtain⟨cG,cC,dI⟩:=AK (bG.rs bA qd aq) (bn.rs bA aq) (bg.c (Qs.of (o:=none) bA) (GN.refl _ _));have eT:=bA.1.rest.size;clear bA bG bn bg;go_upto_region 32 with fail;refine BF ?_;intro w5 bN bC;obtain⟨ab,a6⟩:=AF w4.heap.size;rw[<-a6]at bC⊢;have ax:=Ai (show AB w5 ab _ _ _ _ from bC);obtain⟨aQ,aS,aL⟩:=AK (cG.C bN) (cC.C bN) (dI.C bN);obtain⟨dA,AN,EN⟩:=AK (cB.qs aL (λk a=>by cases a)) (λk(a:(Value.slice U Ys.length M).ownBlock=some k)=>(show k≠ab by have:=(cC.1.lt k a).2;omega)) (λ(e:(Value.slice a1 aw.length c1).ownBlock=some ab)=>by have:=(cG.2.1.lt ab e).2;omega:(Value.slice a1 aw.length c1).ownBlock≠some ab);have aD:wL.heap.size<=ab:=qd;have au:ab≠d:=qd;have e9:=bN.size;have eK:ab<w5.heap.size:=Ap ax;obtain⟨⟨b0,b1,b2,b3⟩,z,_⟩:=ax.J;have z0:=z 0;have z1:=z 1;have z2:=z 2;have z3:=z 3;have bT:¬(pos:Int)=0:=qd;have dH:=Ai (show(1<=wrap64 (1+(D:Int)/8%(pos:Int))/\wrap64 (1+(D:Int)/8%(pos:Int))<=(pos:Int))/\Hid (wrap64 (1+(D:Int)/8%(pos:Int))=1+((D/8%pos:Nat):Int)) from by refine⟨?_,show _=_ from ?_⟩;rotate_left;(have h1:=Int.emod_nonneg ((D:Int)/8) bT;have h2:=Int.emod_lt_of_pos ((D:Int)/8) (show(0:Int)<(pos:Int) by omega);rw[show((D/8%pos:Nat):Int)=(D:Int)/8%(pos:Int) by push_cast;rfl];unfold wrap64;omega);have h1:=Int.emod_nonneg ((D:Int)/8) bT;have h2:=Int.emod_lt_of_pos ((D:Int)/8) (show(0:Int)<(pos:Int) by omega);unfold wrap64;omega);clear bN bC a6 cG cC dI z;have f:(D%8=0∨D%8=1∨D%8=2)∨(D%8=3∨D%8=4)∨(D%8=5∨D%8=6)∨D%8=7:=qd;have bY:=Ai fm;rcases f with f|f|f|f
 .clear bY;rcases f with f|f|f
  all_goals
   have H8:=Ai f;have hI:=ND f;clear f;have dU:=Ai (show((D:Int)/8)=((D/8:Nat):Int) by omega);go_upto_region 38 with fail;refine nL ax ?_;intro w6 cn cg;obtain⟨dF,dD,dE,cF⟩:=BP (aQ.N cg au EN) (aS.N cg AN ax) (aL.N cg aD aq) cn;clear cg cn b0 b1 b2 b3 z0 z1 z2 z3 ax aQ aS aL dA;go_wp2_with fail;rw[dU.o];refine(Z4 (D/8) w6).j ?_;rintro e e6 ⟨cl,ba,rfl,bo,aJ⟩;obtain⟨cj,cq,cw⟩:=AK (dF.C bo) (dD.C bo) (dE.C bo);have a4:=Ai (show AB e6 ab _ _ _ _ from(bo.block ab (Ap cF)).c cF);obtain⟨⟨b0,b1,b2,b3⟩,z,fI⟩:=a4.J;have z2:=z 2;clear z bo dF dD dE cF dU;go_upto_region 39 with fail;refine zss a4 ?_;intro n Z O;obtain⟨aM,bQ,az,aZ⟩:=BP (cj.N O au EN) (cq.N O AN a4) (cw.N O aD aq) Z;have bB:=Ai (cB.qs az (λk a=>by cases a));clear O Z b0 b1 b2 b3 z2 a4 cj cq cw;go_wp2_with fail;refine(sQ K la.tail m g d wL.heap.size (.string nm) (.int .i64 sal) (.slice pa L.length pc) (.slice U Ys.length M) ka kn kc aK a5 a1 c1 aw n az.bh aM bB az.rest.size b6 b7 qd).j ?_;rintro e w7 ⟨ao,co,zs,a7,c7,dv,eL,rfl,aP,aG,⟨aH,bz,di,bK,bP⟩,aN,dm,cJ⟩;obtain⟨ay,bF,br⟩:=AK (show AB w7 ab (.int .i64 1) (.int .i64 0) (.string cl) (.slice none 0 0) from(aN.block ab (Ap aZ) qd au EN).c aZ) aG (C4 aP (base':=wL.heap.size) (by have:=az.rest.size;omega));clear aP;obtain⟨bO,aT⟩:=An (bQ.qs aN aq a5 (λk a=>A7 aM.2.1 a)) (az.c aN (.inr λk a=>(aM.2.1.lt k a).1));have cM:(Value.slice a7 dv.length c7).ownBlock≠some ab:=λe=>by
    obtain⟨cc,dp⟩:=A7 aG.2.1 e;exact Cw dp ay qi
   have ff:=aT.rest.size;obtain⟨⟨g0,g1,g2,g3⟩,z,ep⟩:=ay.J;have cU:=z 3;clear z aG aN dm aZ aM bQ az bB;go_upto_region 49 with fail;refine nS ay ?_;intro wt Z O;obtain⟨ds,ar,I,aC,aW⟩:=Ei (Nj br (T:=[3]) (BO.kept (λk a _=>O.block k a) ay qi) qi) (bF.N O au cM) (bO.N O AN ay) (aT.N O aD aq) Z;clear O Z g0 g1 g2 g3 cU ay bF bO aT br;obtain⟨⟨b0,b1,b2,b3⟩,z,a6⟩:=aW.J;clear z;have bv:d<wt.heap.size:=Ap ar.1;have dh:wt.cell? ⟨d,4,none⟩=some (.slice U Ys.length M):=Xq;have r:=Fx wt;have aY:=Ai (λo k a=>A7 (I.C (r o)).1 (k:=k) a);have cT:=aC.rest.size;go_wp2_with (first|(at_builtin;refine Dp qh (.tmp 157) (.tmp 159) 51 qh wL.heap.size 227 _ 4 56 underlying51 U1 qh qd _ Ys.length _ qh ((I.C (r _)).1) (some ⟨_,0,none⟩) 1 1 qh ([(.int .i64 1),(.int .i64 0),(.string cl),(.slice ao zs.length co)]) qh (λe=>qo) (CH _ _ _ _ qf) qr qj qd qe ?_;intro a9 c9 G aB A bp;have af:=Ai (QB.grown (t:=227) (ar.C (r _)) A (aY _) qi qi);have dj:G.cell? ⟨d,4,none⟩=some (.slice U Ys.length M):=Xp;have cW:G.frozen? ⟨d,4,none⟩=false:=Xz)|fail);go_roundw
   case rel=>
    have aE:=Fk.snoc (x:=((⟨1,0,cl,zs⟩:Ac),(.slice ao zs.length co))) (I.C (r _)) (show QV _ _ ((⟨1,0,cl,zs⟩:Ac),(.slice ao zs.length co)) from⟨⟨_,_,rfl⟩,AZ ds (r _)⟩) aB A;refine⟨j-1,Ys++[((⟨1,0,cl,zs⟩:Ac),(.slice ao zs.length co))],(I9 K aw la.tail).2.2,?_,Sg,⟨a9,c9,a7,c7,_,_,⟨?_,Is af.2.1 af.1 qi,af.2.2⟩,(by have:=Vj (v:=(.slice ao zs.length co)) bm (zx ba di) bz (aH▸bK) (aH▸bP) qd bM;rw[<-aH]at this;exact this),aE.same (T:=[227,3]) (BO.kept (λk a _=>yD _ _ _ _ a) af.1 qi) qi qi,(by show Hc _ _ _ _ _ _ _ _;rw[yz];exact Hc.step bR qd (zr b5 (by have:=H8.o;omega) aJ cJ))⟩,((aC.C (r _)).grown A (λk a=>(I.1.lt k a).1) aq).cG aK⟩
    .exact P_
    .exact Xf
   case measure=>(simp[intOf];omega)
 .clear bY;rcases f with f|f
  all_goals
   have H8:=Ai f;have hI:=ND f;clear f;go_upto_region 49 with fail;refine oE (λz=>(1<=z/\z<=(pos:Int))/\Hid (z=1+((D/8%pos:Nat):Int))) ax dH ?_;intro wt z ⟨hz,al⟩ Z O;obtain⟨ar,I,aC,aW⟩:=BP (aQ.N O au EN) (aS.N O AN ax) (aL.N O aD aq) Z;clear O Z b0 b1 b2 b3 z0 z1 z2 z3 ax aQ aS aL;obtain⟨⟨b0,b1,b2,b3⟩,z,a6⟩:=aW.J;clear z;have bv:d<wt.heap.size:=Ap ar.1;have dh:wt.cell? ⟨d,4,none⟩=some (.slice U Ys.length M):=Xq;have r:=Fx wt;have aY:=Ai (λo k a=>A7 (I.C (r o)).1 (k:=k) a);have cT:=aC.rest.size;go_wp2_with (first|(at_builtin;refine Dp qh (.tmp 157) (.tmp 159) 51 qh wL.heap.size 227 _ 4 56 underlying51 U1 qh qd _ Ys.length _ qh ((I.C (r _)).1) (some ⟨_,0,none⟩) 1 1 qh ([(.int .i64 2),(.int .i64 z),(.string ⟨#[]⟩),(.slice none 0 0)]) qh (λe=>qo) (CH _ _ _ _ qf) qr qj qd qe ?_;intro a9 c9 G aB A bp;have af:=Ai (QB.grown (t:=227) (ar.C (r _)) A (aY _) qi qi);have dj:G.cell? ⟨d,4,none⟩=some (.slice U Ys.length M):=Xp;have cW:G.frozen? ⟨d,4,none⟩=false:=Xz)|fail);go_roundw
   case rel=>
    have aE:=Fk.snoc (x:=((⟨2,z,⟨#[]⟩,[]⟩:Ac),(.slice none 0 0))) (I.C (r _)) (show QV _ _ ((⟨2,z,⟨#[]⟩,[]⟩:Ac),(.slice none 0 0)) from⟨⟨_,_,rfl⟩,AZ (yJ _ _ _ _) (r _)⟩) aB A;refine⟨j-1,Ys++[((⟨2,z,⟨#[]⟩,[]⟩:Ac),(.slice none 0 0))],la.tail,?_,Sg,⟨a9,c9,a1,c1,_,_,⟨?_,Is af.2.1 af.1 qi,af.2.2⟩,(by have:=Vj (v:=(.slice none 0 0)) (m':=m) bm (zh hz de) (ys:=[]) rfl (by simpa using b6) (by simpa using b7) qd bM;simpa using this),aE.same (T:=[227,3]) (BO.kept (λk a _=>yD _ _ _ _ a) af.1 qi) qi qi,(by show Hc _ _ _ _ _ _ _ _;rw[yz];exact Hc.step bR qd (zsX b5 (by have:=H8.o;omega) al))⟩,((aC.C (r _)).grown A (λk a=>(I.1.lt k a).1) aq).cG aK⟩
    .exact P_
    .exact Xf
   case measure=>(simp[intOf];omega)
 .clear bY;rcases f with f|f
  all_goals
   have H8:=Ai f;have hI:=ND f;clear f;go_upto_region 48 with fail;refine oE (λz=>(1<=z/\z<=(pos:Int))/\Hid (z=1+((D/8%pos:Nat):Int))) ax dH ?_;intro n z ⟨hz,al⟩ Z O;obtain⟨aM,bQ,az,aZ⟩:=BP (aQ.N O au EN) (aS.N O AN ax) (aL.N O aD aq) Z;have bB:=Ai (cB.qs az (λk a=>by cases a));clear O Z b0 b1 b2 b3 z0 z1 z2 z3 ax aQ aS aL dA;go_wp2_with fail;refine(sQ K la.tail m g d wL.heap.size (.string nm) (.int .i64 sal) (.slice pa L.length pc) (.slice U Ys.length M) ka kn kc aK a5 a1 c1 aw n az.bh aM bB az.rest.size b6 b7 qd).j ?_;rintro e w7 ⟨ao,co,zs,a7,c7,dv,eL,rfl,aP,aG,⟨aH,bz,di,bK,bP⟩,aN,dm,cJ⟩;obtain⟨ay,bF,br⟩:=AK (show AB w7 ab (.int .i64 3) (.int .i64 z) (.string ⟨#[]⟩) (.slice none 0 0) from(aN.block ab (Ap aZ) qd au EN).c aZ) aG (C4 aP (base':=wL.heap.size) (by have:=az.rest.size;omega));clear aP;obtain⟨bO,aT⟩:=An (bQ.qs aN aq a5 (λk a=>A7 aM.2.1 a)) (az.c aN (.inr λk a=>(aM.2.1.lt k a).1));have cM:(Value.slice a7 dv.length c7).ownBlock≠some ab:=λe=>by
    obtain⟨cc,dp⟩:=A7 aG.2.1 e;exact Cw dp ay qi
   have ff:=aT.rest.size;obtain⟨⟨g0,g1,g2,g3⟩,z,ep⟩:=ay.J;have cU:=z 3;clear z aG aN dm aZ aM bQ az bB;go_upto_region 49 with fail;refine nS ay ?_;intro wt Z O;obtain⟨ds,ar,I,aC,aW⟩:=Ei (Nj br (T:=[3]) (BO.kept (λk a _=>O.block k a) ay qi) qi) (bF.N O au cM) (bO.N O AN ay) (aT.N O aD aq) Z;clear O Z g0 g1 g2 g3 cU ay bF bO aT br;obtain⟨⟨b0,b1,b2,b3⟩,z,a6⟩:=aW.J;clear z;have bv:d<wt.heap.size:=Ap ar.1;have dh:wt.cell? ⟨d,4,none⟩=some (.slice U Ys.length M):=Xq;have r:=Fx wt;have aY:=Ai (λo k a=>A7 (I.C (r o)).1 (k:=k) a);have cT:=aC.rest.size;go_wp2_with (first|(at_builtin;refine Dp qh (.tmp 157) (.tmp 159) 51 qh wL.heap.size 227 _ 4 56 underlying51 U1 qh qd _ Ys.length _ qh ((I.C (r _)).1) (some ⟨_,0,none⟩) 1 1 qh ([(.int .i64 3),(.int .i64 z),(.string ⟨#[]⟩),(.slice ao zs.length co)]) qh (λe=>qo) (CH _ _ _ _ qf) qr qj qd qe ?_;intro a9 c9 G aB A bp;have af:=Ai (QB.grown (t:=227) (ar.C (r _)) A (aY _) qi qi);have dj:G.cell? ⟨d,4,none⟩=some (.slice U Ys.length M):=Xp;have cW:G.frozen? ⟨d,4,none⟩=false:=Xz)|fail);go_roundw
   case rel=>
    have aE:=Fk.snoc (x:=((⟨3,z,⟨#[]⟩,zs⟩:Ac),(.slice ao zs.length co))) (I.C (r _)) (show QV _ _ ((⟨3,z,⟨#[]⟩,zs⟩:Ac),(.slice ao zs.length co)) from⟨⟨_,_,rfl⟩,AZ ds (r _)⟩) aB A;refine⟨j-1,Ys++[((⟨3,z,⟨#[]⟩,zs⟩:Ac),(.slice ao zs.length co))],(I9 K aw la.tail).2.2,?_,Sg,⟨a9,c9,a7,c7,_,_,⟨?_,Is af.2.1 af.1 qi,af.2.2⟩,(by have:=Vj (v:=(.slice ao zs.length co)) bm (xR hz de di) bz (aH▸bK) (aH▸bP) qd bM;rw[<-aH]at this;exact this),aE.same (T:=[227,3]) (BO.kept (λk a _=>yD _ _ _ _ a) af.1 qi) qi qi,(by show Hc _ _ _ _ _ _ _ _;rw[yz];exact Hc.step bR qd (zE b5 (by have:=H8.o;omega) al cJ))⟩,((aC.C (r _)).grown A (λk a=>(I.1.lt k a).1) aq).cG aK⟩
    .exact P_
    .exact Xf
   case measure=>(simp[intOf];omega)
 clear bY;have H8:=Ai f;have hI:=ND f;clear f;go_upto_region 49 with fail;refine nL ax ?_;intro wt Z O;obtain⟨ar,I,aC,aW⟩:=BP (aQ.N O au EN) (aS.N O AN ax) (aL.N O aD aq) Z;clear O Z b0 b1 b2 b3 z0 z1 z2 z3 ax aQ aS aL;obtain⟨⟨b0,b1,b2,b3⟩,z,a6⟩:=aW.J;clear z;have bv:d<wt.heap.size:=Ap ar.1;have dh:wt.cell? ⟨d,4,none⟩=some (.slice U Ys.length M):=Xq;have r:=Fx wt;have aY:=Ai (λo k a=>A7 (I.C (r o)).1 (k:=k) a);have cT:=aC.rest.size;go_wp2_with (first|(at_builtin;refine Dp qh (.tmp 157) (.tmp 159) 51 qh wL.heap.size 227 _ 4 56 underlying51 U1 qh qd _ Ys.length _ qh ((I.C (r _)).1) (some ⟨_,0,none⟩) 1 1 qh ([(.int .i64 4),(.int .i64 0),(.string ⟨#[]⟩),(.slice none 0 0)]) qh (λe=>qo) (CH _ _ _ _ qf) qr qj qd qe ?_;intro a9 c9 G aB A bp;have af:=Ai (QB.grown (t:=227) (ar.C (r _)) A (aY _) qi qi);have dj:G.cell? ⟨d,4,none⟩=some (.slice U Ys.length M):=Xp;have cW:G.frozen? ⟨d,4,none⟩=false:=Xz)|fail);go_roundw
 case rel=>
  have aE:=Fk.snoc (x:=((⟨4,0,⟨#[]⟩,[]⟩:Ac),(.slice none 0 0))) (I.C (r _)) (show QV _ _ ((⟨4,0,⟨#[]⟩,[]⟩:Ac),(.slice none 0 0)) from⟨⟨_,_,rfl⟩,AZ (yJ _ _ _ _) (r _)⟩) aB A;refine⟨j-1,Ys++[((⟨4,0,⟨#[]⟩,[]⟩:Ac),(.slice none 0 0))],la.tail,?_,Sg,⟨a9,c9,a1,c1,_,_,⟨?_,Is af.2.1 af.1 qi,af.2.2⟩,(by have:=Vj (v:=(.slice none 0 0)) (m':=m) bm (yt pos) (ys:=[]) rfl (by simpa using b6) (by simpa using b7) qd bM;simpa using this),aE.same (T:=[227,3]) (BO.kept (λk a _=>yD _ _ _ _ a) af.1 qi) qi qi,(by show Hc _ _ _ _ _ _ _ _;rw[yz];exact Hc.step bR qd (ztC b5 H8))⟩,((aC.C (r _)).grown A (λk a=>(I.1.lt k a).1) aq).cG aK⟩
  .exact P_
  .exact Xf
 case measure=>(simp[intOf];omega)
def Mr(M:List Fi):Prop:=∀i x,M[i]?=some x->Sz i x.ru /\ -9223372036854775808<=x.aq/\x.aq<=9223372036854775807
def Mr.snoc{M x}(h:Mr M)(c:Sz M.length x.ru)(d:-9223372036854775808<=x.aq/\x.aq<=9223372036854775807):Mr (M++[x]):=by
 intro i y a;by_cases b:i<M.length
 .rw[yr b]at a;exact h i y a
 have O:=(yf.1 a).1;simp at O;obtain rfl:i=M.length:=qd;simp at a;subst a;exact⟨c,d⟩
def LJ.dB{w base x}(h:LJ w base x):(∃a n c,x.pv=.slice a n c)/\(∃a n c,x.ev=.slice a n c)/\∃a n c,x.av=.slice a n c:=by
 obtain⟨⟨a,c,e,_⟩,⟨b,f,g,_⟩,i,j,d,_⟩:=h;exact⟨⟨a,_,c,e⟩,⟨b,_,f,g⟩,i,_,j,d⟩
def zu3:(prog.info? 53).map (λi=>(i.zero,i.size,i.bytes))=some (some (.agg #[.string ⟨#[]⟩,I6 0,.slice none 0 0,.slice none 0 0,.slice none 0 0]),5,96):=qg
def zhX(g most:Nat)(l w)(h:ES w g l)(hm:1<=most)(aW:most<=8) :
  Ca 80 #[.pointer (some ⟨g,0,none⟩),.int .i64 (most:Int)] w λe w'=>∃a c M,e=.returned (.slice a (List.length M) c)/\1<=M.length/\M.length<=most/\Mr M/\RO w' w.heap.size a c M/\Rs g (LA Fy most l).2 w w'/\Hid (M.map Fi.ru=(LA Fy most l).1):=by
 have H:=Ai h;have hlt:=h.lt;clear h;have aU:¬(most:Int)=0:=qd;go_enter func80,ntmps80;go_wp2_with fail;refine(Gv g l w H).j ?_;rintro e w1 ⟨s,aT,rfl,K,E⟩;have R1:=Ai K;clear K H;obtain⟨b,r⟩:=AF (1+s%most);have ax:1+(s:Int)%(most:Int)=(b:Int):=by rw[r];push_cast;rfl
 have aE:=Wx s (show 0<most by omega);have aP:1<=b/\b<=most:=qd;have t:Hid (LA Fy most l=Na Fy b 0 l.tail):=show _=_ from by unfold LA;rw[E.o,<-r]
 clear r aE E;go_wp2_with fail;clear ax
 go_loopw [5,6] (λov n wr=>∃(j:Nat)(a:Af)(c:Nat)(M:List Fi)(f:Bs),n=.int .i64 (j:Int)/\ov=.slice a M.length c/\M.length+j=b/\Mr M/\RO wr w.heap.size a c M/\Rs g f w wr/\Li Fy b l.tail (M.map Fi.ru) j f) (λ_ n _=>(intOf n).toNat)
 .exact⟨b,none,0,[],l.tail,rfl,rfl,qf,λi x h=>by simp at h,RO.nil _ _,R1,Li.nil⟩
 obtain⟨j,a,c,M,f,rfl,rfl,hj,aM,aD,B,N⟩:=hrel;have ar:=Ai N;clear N;obtain⟨y,HJ⟩:=An aM hj;have aX:j<=8:=qd;have aS:M.length<=8:=qd;obtain⟨aN,MO,R⟩:=AK (show M.length<=most by omega) aD B;have aI:=B.1.rest.size;by_cases aL:j=0
 .have aF:1<=M.length:=by have:=HJ.o;omega
  subst aL;go_wp2;go_ret;have z:LA Fy most l=(M.map Fi.ru,f):=by rw[t.o];exact ar.cf
  exact⟨a,c,M,rfl,aF,aN,y,MO,by rw[z];exact R,show _=_ from by rw[z]⟩
 have aQ:(0:Int)<(j:Int):=qd;go_wp2_with fail;refine(zit g M.length f wr R.2 qd).j ?_;rintro e U ⟨x,rfl,⟨aJ,aG⟩,az,G,p⟩;obtain⟨t,aH⟩:=An aJ az;obtain⟨⟨A,pn,v,J⟩,⟨W,en,I,D⟩,Y,an,ac,L⟩:=G.dB;obtain⟨Z,sal,pv,ev,av,pats,es,acts⟩:=x;dsimp only at J D L;subst J D L;obtain⟨O,R2,aO⟩:=AK (MO.rs p hlt) (R.c p) (G.lower aI);have aV:=p.1.rest.size;have m:=Fx U;have TY:=Ai (λo k q=>A7 (AZ O.1 (m o)) (k:=k) q);unfold Xj;go_wp2_with (first|(at_builtin;refine Dp qh (.tmp 16) (.tmp 21) 24 qh w.heap.size 53 _ 5 96 underlying24 zu3 qh qd _ M.length _ qh (AZ O.1 (m _)) (some ⟨_,0,none⟩) 1 1 qh (Fb ⟨Z,sal,.slice A pn v,.slice W en I,.slice Y an ac,pats,es,acts⟩) qh (λe=>qo) (CH _ _ _ _ qf) (by intro u hu;simp[Fb]at hu;rcases hu with rfl|rfl|rfl|rfl|rfl<;>rfl) qj qd qe ?_;intro a9 c9 w9 aC T aR)|fail);go_roundw
 case rel=>
  refine⟨j-1,a9,c9,M++[⟨Z,sal,.slice A pn v,.slice W en I,.slice Y an ac,pats,es,acts⟩],(MY (Fy M.length) f).2,?_,qf,Sg,y.o.snoc t.o aH.o,⟨by simpa using aC.o,λx d=>?_⟩,(R2.o.C (m.o _)).grown T.o (λk q=>(O.o.1.lt k q).1) hlt,(by rw[yz];exact Li.step ar.o qf qd aG.o)⟩
  .exact P_
  .have aK:LJ U w.heap.size x:=by
    rcases yp.1 d with d|d
    .exact O.2 x d
    simp at d;subst d;exact aO
   exact(aK.same (BO.C (m _))).same (BO.grown T (TY _) qi)
 case measure=>(simp[intOf];omega)
def Lw:(prog.info? 187).map (λi=>(i.zero,i.size,i.bytes))=some (some (.agg #[I6 0,I6 0,.string ⟨#[]⟩]),3,32):=qg
def FB(w:Aa)(fb B:Nat)(tag:Int)(cls:ByteArray)(a:Af)(c:Nat)(vs:AH):Prop:=
 Bk w fb #[.int .i64 tag,.string cls,.slice a vs.length c] 145/\w.ownsRow B 187 3 (.slice a vs.length c) vs.length (vs.flatMap V.cells)/\∀v∈vs,Hz v
section
variable {w w' : Aa} {fb B : Nat} {tag : Int} {cls : ByteArray} {a : Af} {c : Nat} {vs : AH}
def FB.rs{g l}(h:FB w fb B tag cls a c vs)(b:Rs g l w w')(d:fb≠g)(e:g<B):FB w' fb B tag cls a c vs:=⟨DX b h.1 d,My h.2.1 b e,h.2.2⟩
def FB.C(h:FB w fb B tag cls a c vs)(b:Bw w w'):FB w' fb B tag cls a c vs:=⟨(b.block fb (Ap h.1)).c h.1,AZ h.2.1 b,h.2.2⟩
def FB.N{d}(h:FB w fb B tag cls a c vs)(b:Turned w w' d)(hd:d≠fb)(f:∀k,(Value.slice a vs.length c).ownBlock=some k->k≠d):FB w' fb B tag cls a c vs:=
 ⟨(b.block fb (WU hd)).c h.1,Ci h.2.1 (λk e=>b.block k (f k e)),h.2.2⟩
def FB.cells(h:FB w fb B tag cls a c vs):At w fb 0 (I6 tag)/\At w fb 1 (.string cls)/\At w fb 2 (.slice a vs.length c):=by
 refine⟨?_,?_,?_⟩<;>simp[World.cell?,h.1]
end
def Q_{w wt s f j B g l tag e a d c b vs v}(h:FB wt j B tag e a c vs)(hv:Hz v)(D:Rs g l w wt)(O:Bw wt s)(z:f.ownsRow B 187 3 (.slice d (vs.length+1) b) (vs.length+1) (vs.flatMap V.cells++V.cells v))(t:s.grownBy f (Value.slice a vs.length c).ownBlock)(y:w.heap.size<=B)(E:w.heap.size<=j)(q:g<w.heap.size) :
  FB (f.setCell ⟨j,2,none⟩ (.slice d (vs.length+1) b)) j B tag e d b (vs++[v])/\Rs g l w (f.setCell ⟨j,2,none⟩ (.slice d (vs.length+1) b)):=by
 have p:=h.C O;have r:=E5 p.1 t (λk n=>A7 p.2.1 n) qi;have A:Rs g l w f:=(D.C O).grown t (λk n=>yi y (p.2.1.lt k n).1) q;refine⟨⟨?_,?_,?_⟩,A.am E q⟩
 .have:=C7 (i:=2) r (.slice d (vs.length+1) b);simpa using this
 .have:=Is (o:=2) (x:=.slice d (vs.length+1) b) z r qi;simpa using this
 intro x u;rcases yp.1 u with m|m
 .exact h.2.2 x m
 simp at m;exact m▸hv
def Ro{wt i d e B tag b a c vs}(h:FB wt e B tag b a c vs)(O:Bw wt i)(j:i.grownBy d (Value.slice a vs.length c).ownBlock) :
  At d e 2 (.slice a vs.length c)/\d.frozen? ⟨e,2,none⟩=false:=by
 have f:=h.C O;have g:=E5 f.1 j (λk l=>A7 f.2.1 l) qi;exact⟨by simp[World.cell?,g],by simp[World.frozen?,g]⟩
def wn{w base a c}{ts:A3}(h:w.ownsRow base 189 6 (.slice a ts.length c) ts.length (ts.flatMap GS)){i t}(q:ts[i]?=some t) :
  ∃k,a=some ⟨k,0,none⟩/\base<=k/\k<w.heap.size/\At w k (i*6) (I6 t.w)/\At w k (i*6+1) (I6 t.op)/\At w k (i*6+2) (.string t.F)/\At w k (i*6+3) (I6 t.val.w)/\At w k (i*6+4) (I6 t.val.num)/\At w k (i*6+5) (.string t.val.O):=by
 have key:=λj u(hj:(GS t)[j]?=some u)=>CG h (Hf (cells:=GS) (m:=6) (λ_=>rfl) ts i t j u q hj);obtain⟨k,rfl,d,O,_⟩:=key 0 _ rfl;obtain⟨z,r,_,e,_⟩:=key 1 _ rfl;obtain⟨v,n,_,s,_⟩:=key 2 _ rfl;obtain⟨x,l,_,o,_⟩:=key 3 _ rfl;obtain⟨y,f,_,g,_⟩:=key 4 _ rfl;obtain⟨A,p,_,b,_⟩:=key 5 _ rfl;cases r;cases n;cases l;cases f;cases p;exact⟨k,rfl,d,yI w ⟨k,_,none⟩ O,O,e,s,o,g,b⟩
def zw{w base a c}{vs:AH}(h:w.ownsRow base 187 3 (.slice a vs.length c) vs.length (vs.flatMap V.cells)){i v}(f:vs[i]?=some v) :
  ∃k,a=some ⟨k,0,none⟩/\base<=k/\k<w.heap.size/\At w k (i*3) (I6 v.w)/\At w k (i*3+1) (I6 v.num)/\At w k (i*3+2) (.string v.O):=by
 have key:=λj u(hj:(V.cells v)[j]?=some u)=>CG h (Hf (cells:=V.cells) (m:=3) (λ_=>rfl) vs i v j u f hj);obtain⟨k,rfl,b,O,_⟩:=key 0 _ rfl;obtain⟨o,g,_,d,_⟩:=key 1 _ rfl;obtain⟨n,e,_,l,_⟩:=key 2 _ rfl;cases g;cases e;exact⟨k,rfl,b,yI w ⟨k,_,none⟩ O,O,d,l⟩
def fV(tag:Int)(cls:ByteArray)(x:Value):Value:=.agg #[.int .i64 tag,.string cls,x]
def xG:(prog.info? 145).map (·.size)=some 3:=qg
def zom(g l base x tag w)(h:ES w g l)(hx:H5 w base x) :
  Ca 87 #[.pointer (some ⟨g,0,none⟩),.agg #[.bool x.1.neg,.string x.1.E,x.2],.int .i64 tag] w λe w'=>∃sa sc vs,e=.returned (fV tag x.1.E (.slice sa vs.length sc))/\vs.length<=3/\w'.ownsRow w.heap.size 187 3 (.slice sa vs.length sc) vs.length ((vs:AH).flatMap V.cells)/\(∀v∈vs,Hz v)/\Hid (vs=(Ey x.1.s [] l).1)/\Rs g (Ey x.1.s [] l).2 w w':=by
 obtain⟨⟨neg,U,ts⟩,xv⟩:=x;obtain⟨⟨ta,tc,bh⟩,K,ab,aR,a5⟩:=hx;dsimp only at bh K ab aR a5⊢;subst bh;obtain⟨H,HT,bp,bw⟩:=BP h K a5 h;have hlt:=h.lt;clear h K a5;obtain⟨bi,bj,a8⟩:=AK (λL z R=>(((y8 _ _).alloc (yA _) L).alloc qf z).alloc qe R:∀L z R,Below w.heap.size w (((w.alloc L).alloc z).alloc R)) (λL z R=>((y8 ((w.alloc L).alloc z).heap.size ((w.alloc L).alloc z)).alloc (yA _) R).block (w.heap.size+1) qf |>.c (show((w.alloc L).alloc z).heap[w.heap.size+1]?=some z from by have:=heap_alloc_new (w.alloc L) z;simpa using this)) (λL z R=>(show(((w.alloc L).alloc z).alloc R).heap[w.heap.size+1+1]?=some R from by have:=heap_alloc_new ((w.alloc L).alloc z) R;simpa using this));go_enter func87,ntmps87;go_wp2
 go_loopw [18] (λiv wr=>∃(i:Nat)(a:Af)(c:Nat)(vs:AH)(lr:Bs),iv=.int .i64 (i:Int)/\i<=ts.length/\vs.length=i/\FB wr (w.heap.size+1+1) w.heap.size tag U a c vs/\Bk wr (w.heap.size+1) #[.int .i64 0,.string ⟨#[]⟩,.slice none 0 0] 145/\Hid (Ey (ts.drop i) vs lr=Ey ts [] l)/\Rs g lr w wr) (λiv _=>ts.length-(intOf iv).toNat)
 .exact⟨0,none,0,[],l,rfl,qd,rfl,⟨a8 _ _ _,yJ _ _ _ _,λv hv=>by simp at hv⟩,bj _ _ _,Ai rfl,Rs.of H (bi _ _ _)⟩
 obtain⟨i,a,c,vs,lr,rfl,hi,bc,a0,bl,HE,hR⟩:=hrel;have aC:=Ai bc;have bB:vs.length<=3:=qd;clear bc;obtain⟨HF,aV,HR⟩:=AK a0 bl hR;have ac:=hR.1.rest.size;have bG:w.heap.size+1+1<wr.heap.size:=Ap a0.1;clear a0 bl hR bi bj a8 H;by_cases a7:i<ts.length
 .obtain⟨t,aU⟩:∃t,ts[i]?=some t:=⟨ts[i],by simp[a7]⟩
  obtain⟨tk,rfl,bH,bE,c0,c1,c2,n,c4,c5⟩:=wn (wI HT HR bw qi) aU;have bt:Hz t.val:=(bp t (yd aU)).2.1;have bm:=Hk a7;have aJ:=Fx wr;obtain⟨a9,aA⟩:=An (λo=>HR.2.C (aJ o)) aU;clear aU;go_wp2_with fail;refine(PM g lr _ (a9 _)).j ?_;rintro e m ⟨v1,⟨aT,aQ⟩,rfl,aO⟩;obtain⟨aS,bf,br,aW⟩:=BP (DX aO (heap_alloc_new _ _) qd) ((HR.C (aJ _)).c aO) ((HF.C (aJ _)).rs aO qd qd) (DX aO (((aJ _).block _ qd).c aV) qd);have ad:wr.heap.size<m.heap.size:=Ap aS;obtain⟨A,t1,t2,t3,t4,t5⟩:=EK aS;have bA:=Fx m;obtain⟨bJ,bg⟩:=An (λo=>bf.2.C (bA o)) (λk(b:(Value.slice a vs.length c).ownBlock=some k)=>(HF.2.1.lt k b).2);clear aO c0 c1 c2 n c4 c5 A t1 t2 t3 t4 t5 aJ a9 HF HR aV;unfold vV;go_upto_region 6 with fail;refine BF ?_;intro w0 aH aZ;obtain⟨az,aD,aB,ay,aN⟩:=Ei aZ (br.C aH) (bf.C aH) ((aH.block _ (Ap aW)).c aW) ((aH.block _ (Ap aS)).c aS);have bI:=aH.size;obtain⟨A,t1,t2,t3,t4,t5⟩:=EK aN;have bk:=Ai (λk(b:(Value.slice a vs.length c).ownBlock=some k)=>bg k b);by_cases aK:t.w=1
  .have ax:¬t.w=2:=qd;rw[aK]at A;go_wp2_with fail;refine(Gv g lr.tail w0 aB.2).j ?_;rintro e f ⟨n2,bn,rfl,y,aM⟩;obtain⟨au,M,aE,aw⟩:=BP (DX y az qd) (aD.rs y qd qd) (aB.c y) (DX y ay qd);obtain⟨A,t1,t2,t3,t4,t5⟩:f.cell? ⟨wr.heap.size,0,none⟩=some (.int .i64 t.w)/\f.cell? ⟨wr.heap.size,1,none⟩=some (.int .i64 t.op)/\f.cell? ⟨wr.heap.size,2,none⟩=some (.string t.F)/\f.cell? ⟨wr.heap.size,3,none⟩=some (.int .i64 t.val.w)/\f.cell? ⟨wr.heap.size,4,none⟩=some (.int .i64 t.val.num)/\f.cell? ⟨wr.heap.size,5,none⟩=some (.string t.val.O):=EK (DX y aN qd);have bu:=y.1.rest.size;rw[aK]at A;have a6:=Ai A;by_cases aI:n2%4=0
   .have aX:¬(0:Int)<(n2:Int)%4:=qd;obtain⟨O,I,B⟩:=AK M aE aw;obtain⟨J,q1,q2⟩:=Jo (v:=v1) au;obtain⟨Z,W,Y⟩:=O.cells;have aL:w.heap.size+1+1<f.heap.size:=Ap O.1;have aP:m.heap.size<f.heap.size:=yI f ⟨m.heap.size,0,none⟩ J;have af:=Fx f;have ah:=Ai (λo=>AZ O.2.1 (af o));go_wp2_with (first|(at_builtin;refine Dp qh (.tmp 55) (.tmp 57) 38 qh w.heap.size 187 _ 3 32 underlying38 Lw qh qd _ vs.length _ qh (ah _) (some ⟨_,0,none⟩) 1 1 qh (V.cells v1) qh (λe=>qo) (CH _ _ _ _ qf) (V.cells_one v1) qj qd qe ?_;intro G n T D d aF;obtain⟨k3,z3⟩:=Ro O (af _) d)|fail);obtain⟨r1,r2⟩:=Q_ O aT I (af _) D d (yA _) qd hlt;go_roundw;exact⟨i+1,G,n,vs++[v1],_,qm,qd,Sc,r1,(yD _ _ _ _ qf).c (E5 (t':=187) (((af _).block _ qd).c B) d (λk b=>A7 (ah _) b) qi),Ai (Rn aA HE (by simp[Hr,aK,aM.o,aI,aQ.o])),r2⟩;simp[intOf];omega
   have aX:(0:Int)<(n2:Int)%4:=qd;go_wp2_with (first|(refine Ec qh 187 (.tmp 10) (.tmp 34) qh m.heap.size (V.cells t.val) qh qh _ 187 au qh Ol (V.cells_one _) ?_;intro wt aG ar;have bv:wt.cell? ⟨wr.heap.size,0,none⟩=some (.int .i64 1):=uf;have O:=Ai (M.N ar qd (λk b=>by have:=(M.2.1.lt k b);have:=bk k b;omega));have I:=Ai (aE.N ar qd hlt);have B:=Ai ((ar.block _ qd).c aw);obtain⟨J,q1,q2⟩:=Jo (v:=t.val) aG;obtain⟨Z,W,Y⟩:=O.cells;have aL:w.heap.size+1+1<wt.heap.size:=Ap O.1;have aP:m.heap.size<wt.heap.size:=yI wt ⟨m.heap.size,0,none⟩ J;have af:=Fx wt;have ah:=Ai (λo=>AZ O.2.1 (af o));clear A t3 t4 t5 )|(at_builtin;refine Dp qh (.tmp 55) (.tmp 57) 38 qh w.heap.size 187 _ 3 32 underlying38 Lw qh qd _ vs.length _ qh (ah _) (some ⟨_,0,none⟩) 1 1 qh (V.cells t.val) qh (λe=>qo) (CH _ _ _ _ qf) (V.cells_one t.val) qj qd qe ?_;intro G n T D d aF;obtain⟨k3,z3⟩:=Ro O (af _) d)|fail);obtain⟨r1,r2⟩:=Q_ O bt I (af _) D d (yA _) qd hlt;go_roundw;exact⟨i+1,G,n,vs++[t.val],_,qm,qd,Sc,r1,(yD _ _ _ _ qf).c (E5 (t':=187) (((af _).block _ qd).c B) d (λk b=>A7 (ah _) b) qi),Ai (Rn aA HE (by simp[Hr,aK,aM.o,aI])),r2⟩;simp[intOf];omega
  by_cases ax:t.w=2
  .rw[ax]at A;by_cases aa:vs.length=0
   .obtain rfl:vs=[]:=YJ aa;obtain⟨Z,W,Y⟩:=aD.cells;obtain⟨O,I,B⟩:=AK aD aB ay;obtain⟨J,q1,q2⟩:=Jo (v:=v1) az;obtain⟨Z,W,Y⟩:=O.cells;have aL:w.heap.size+1+1<w0.heap.size:=Ap O.1;have aP:m.heap.size<w0.heap.size:=yI w0 ⟨m.heap.size,0,none⟩ J;have af:=Fx w0;have ah:=Ai (λo=>AZ O.2.1 (af o));go_wp2_with (first|(at_builtin;refine Dp qh (.tmp 55) (.tmp 57) 38 qh w.heap.size 187 _ 3 32 underlying38 Lw qh qd _ ([]:AH).length _ qh (ah _) (some ⟨_,0,none⟩) 1 1 qh (V.cells v1) qh (λe=>qo) (CH _ _ _ _ qf) (V.cells_one v1) qj qd qe ?_;intro G n T D d aF;obtain⟨k3,z3⟩:=Ro O (af _) d)|fail);obtain⟨r1,r2⟩:=Q_ O aT I (af _) D d (yA _) qd hlt;go_roundw;exact⟨i+1,G,n,([]:AH)++[v1],_,qm,qd,Sc,r1,(yD _ _ _ _ qf).c (E5 (t':=187) (((af _).block _ qd).c B) d (λk b=>A7 (ah _) b) qi),Ai (Rn aA HE (by simp[Hr,ax,aQ.o])),r2⟩;simp[intOf];omega
   have bF:(0:Int)<(vs.length:Int):=qd;obtain⟨Z,W,Y⟩:=aD.cells;go_wp2_with fail;refine(Gv g lr.tail w0 aB.2).j ?_;rintro e f ⟨n2,bn,rfl,y,aM⟩;obtain⟨au,M,aE,aw⟩:=BP (DX y az qd) (aD.rs y qd qd) (aB.c y) (DX y ay qd);obtain⟨A,t1,t2,t3,t4,t5⟩:f.cell? ⟨wr.heap.size,0,none⟩=some (.int .i64 t.w)/\f.cell? ⟨wr.heap.size,1,none⟩=some (.int .i64 t.op)/\f.cell? ⟨wr.heap.size,2,none⟩=some (.string t.F)/\f.cell? ⟨wr.heap.size,3,none⟩=some (.int .i64 t.val.w)/\f.cell? ⟨wr.heap.size,4,none⟩=some (.int .i64 t.val.num)/\f.cell? ⟨wr.heap.size,5,none⟩=some (.string t.val.O):=EK (DX y aN qd);have bu:=y.1.rest.size;rw[ax]at A;have a6:=Ai A;by_cases aI:n2%2=0
   .obtain⟨vf,a4⟩:∃v,vs[0]?=some v:=⟨vs[0]'(by omega),qf⟩
    have bd:Hz vf:=M.2.2 vf (yd a4);obtain⟨e0,e1,e2⟩:=M.cells;obtain⟨sk,bq,bC,bD,s0,s1,s2⟩:=zw M.2.1 a4;subst bq;simp only[V8,Yj]at s0 s1 s2;go_wp2_with (first|(refine Ec qh 187 (.tmp 10) (.tmp 53) qh m.heap.size (V.cells vf) qh qh _ 187 au qh Ol (V.cells_one _) ?_;intro wt aG ar;have bv:wt.cell? ⟨wr.heap.size,0,none⟩=some (.int .i64 2):=uf;have O:=Ai (M.N ar qd (λk b=>by have:=(M.2.1.lt k b);have:=bk k b;omega));have I:=Ai (aE.N ar qd hlt);have B:=Ai ((ar.block _ qd).c aw);obtain⟨J,q1,q2⟩:=Jo (v:=vf) aG;obtain⟨Z,W,Y⟩:=O.cells;have aL:w.heap.size+1+1<wt.heap.size:=Ap O.1;have aP:m.heap.size<wt.heap.size:=yI wt ⟨m.heap.size,0,none⟩ J;have af:=Fx wt;have ah:=Ai (λo=>AZ O.2.1 (af o));clear A t3 t4 t5 e0 e1 e2 s0 s1 s2)|(at_builtin;refine Dp qh (.tmp 55) (.tmp 57) 38 qh w.heap.size 187 _ 3 32 underlying38 Lw qh qd _ vs.length _ qh (ah _) (some ⟨_,0,none⟩) 1 1 qh (V.cells vf) qh (λe=>qo) (CH _ _ _ _ qf) (V.cells_one vf) qj qd qe ?_;intro G n T D d aF;obtain⟨k3,z3⟩:=Ro O (af _) d)|fail);obtain⟨r1,r2⟩:=Q_ O bd I (af _) D d (yA _) qd hlt;go_roundw;exact⟨i+1,G,n,vs++[vf],_,qm,qd,Sc,r1,(yD _ _ _ _ qf).c (E5 (t':=187) (((af _).block _ qd).c B) d (λk b=>A7 (ah _) b) qi),Ai (Rn aA HE (by simp[Hr,ax,aa,aM.o,aI,a4])),r2⟩;simp[intOf];omega
   have aX:¬(n2:Int)%2=0:=qd;obtain⟨O,I,B⟩:=AK M aE aw;obtain⟨J,q1,q2⟩:=Jo (v:=v1) au;obtain⟨Z,W,Y⟩:=O.cells;have aL:w.heap.size+1+1<f.heap.size:=Ap O.1;have aP:m.heap.size<f.heap.size:=yI f ⟨m.heap.size,0,none⟩ J;have af:=Fx f;have ah:=Ai (λo=>AZ O.2.1 (af o));go_wp2_with (first|(at_builtin;refine Dp qh (.tmp 55) (.tmp 57) 38 qh w.heap.size 187 _ 3 32 underlying38 Lw qh qd _ vs.length _ qh (ah _) (some ⟨_,0,none⟩) 1 1 qh (V.cells v1) qh (λe=>qo) (CH _ _ _ _ qf) (V.cells_one v1) qj qd qe ?_;intro G n T D d aF;obtain⟨k3,z3⟩:=Ro O (af _) d)|fail);obtain⟨r1,r2⟩:=Q_ O aT I (af _) D d (yA _) qd hlt;go_roundw;exact⟨i+1,G,n,vs++[v1],_,qm,qd,Sc,r1,(yD _ _ _ _ qf).c (E5 (t':=187) (((af _).block _ qd).c B) d (λk b=>A7 (ah _) b) qi),Ai (Rn aA HE (by simp[Hr,ax,aa,aM.o,aI,aQ.o])),r2⟩;simp[intOf];omega
  obtain⟨O,I,B⟩:=AK aD aB ay;obtain⟨J,q1,q2⟩:=Jo (v:=v1) az;obtain⟨Z,W,Y⟩:=O.cells;have aL:w.heap.size+1+1<w0.heap.size:=Ap O.1;have aP:m.heap.size<w0.heap.size:=yI w0 ⟨m.heap.size,0,none⟩ J;have af:=Fx w0;have ah:=Ai (λo=>AZ O.2.1 (af o));go_wp2_with (first|(at_builtin;refine Dp qh (.tmp 55) (.tmp 57) 38 qh w.heap.size 187 _ 3 32 underlying38 Lw qh qd _ vs.length _ qh (ah _) (some ⟨_,0,none⟩) 1 1 qh (V.cells v1) qh (λe=>qo) (CH _ _ _ _ qf) (V.cells_one v1) qj qd qe ?_;intro G n T D d aF;obtain⟨k3,z3⟩:=Ro O (af _) d)|fail);obtain⟨r1,r2⟩:=Q_ O aT I (af _) D d (yA _) qd hlt;go_roundw;exact⟨i+1,G,n,vs++[v1],_,qm,qd,Sc,r1,(yD _ _ _ _ qf).c (E5 (t':=187) (((af _).block _ qd).c B) d (λk b=>A7 (ah _) b) qi),Ai (Rn aA HE (by simp[Hr,aK,ax,aQ.o])),r2⟩;simp[intOf];omega
 have bz:i=ts.length:=qd;have HX:(vs,lr)=Ey ts [] l:=by have:=HE.o;rwa [bz,i7]at this
 have bm:=FN a7;obtain⟨Z,W,Y⟩:=HF.cells;go_wp2_with (first|(refine Ec qh 145 (.tmp 6) (.tmp 61) qh (w.heap.size+1) [.int .i64 tag,.string U,.slice a vs.length c] qh qh _ 145 aV qh xG (by intro u hu;simp at hu;rcases hu with rfl|rfl|rfl<;>rfl) ?_;intro T aY aR)|fail);have f0:T.cell? ⟨w.heap.size+1,0,none⟩=some (.int .i64 tag):=by simp[World.cell?,aY.o]
 have f1:T.cell? ⟨w.heap.size+1,1,none⟩=some (.string U):=by simp[World.cell?,aY.o]
 have f2:T.cell? ⟨w.heap.size+1,2,none⟩=some (.slice a vs.length c):=by simp[World.cell?,aY.o]
 refine bodyPost_ret (v:=fV tag U (.slice a vs.length c)) (by simp[results,results87,go_sem,f0,f1,f2,fV]) rfl ⟨a,c,vs,rfl,qd,?_,(λp q r hh=>HF.2.2 (p,q,r) hh),Ai (HX▸rfl),HX▸HR.o.N aR qd hlt⟩;refine Ci HF.2.1 (λk b=>aR.block k (λe=>?_));obtain⟨cc,bo⟩:=A7 HF.2.1 b;subst e;exact Cw bo aV qi
def XZ{v}(h:Hz v):ER v:=by
 obtain⟨e,⟨c,b⟩,d,a,_⟩:=h;exact⟨oT c b,oT d a,qj⟩
def SQ:V:=(0,0,⟨#[]⟩)
def LQ(c:Nat)(vs:AH):AH:=if c=255 then List.replicate 7 SQ else if c=254 then vs++[(2,0,⟨#[]⟩)] else if c=253 then vs++[(1,0,⟨#[45,97]⟩)] else if c=252 then vs++[(1,1,⟨#[97]⟩)] else if c=251 then List.replicate 6 SQ else if c=250 then vs++[(1,0,⟨#[97,98,99,100,101,102,103,104,105,106,97,98,99,100,101,102,103,104,105,106]⟩)] else vs
def nW(n)(a:n=6∨n=7)(w:Aa):(w.alloc (.cells (madeCells #[I6 0,I6 0,.string ⟨#[]⟩] (n*3)) 187)).ownsRow w.heap.size 187 3 (.slice (some ⟨w.heap.size,0,none⟩) n n) n ((List.replicate n SQ).flatMap V.cells):=by
 rcases a with rfl|rfl
 .exact⟨rfl,.inr ⟨w.heap.size,6,_,rfl,yA _,heap_alloc_new _ _,yA _,qi,by simp[madeCells],qg⟩⟩
 exact⟨rfl,.inr ⟨w.heap.size,7,_,rfl,yA _,heap_alloc_new _ _,yA _,qi,by simp[madeCells],qg⟩⟩
def Ut(g base:Nat)(l:Bs)(a:Af)(c:Nat)(vs:AH)(w:Aa)(e:Ending)(w':Aa):Prop:=
 ∃a' c' vs',e=.returned (.slice a' (List.length vs') c')/\vs'.length<=7/\Hid (vs'=LQ (Bo l) vs)/\(∀v∈vs',ER v)/\w'.ownsRow base 187 3 (.slice a' vs'.length c') vs'.length (vs'.flatMap V.cells)/\Qs g g l.tail (Value.slice a vs.length c).ownBlock w w'
def Qs.bJ{g b l o u v w}(h:Qs g b l o u v)(d:v.grownBy w o)(i:∀k,o=some k->g<k)(O:g<u.heap.size):Qs g b l o u w:=
 ⟨h.rest.grown d (yn _) (λ_ _=>yn _),λk a j m f=>(d.block k (yg a h.rest.size) (λe=>f e.z)).c (h.block k a j m f),h.bh.cq (Au.grown d jU (λk a=>by have:=i k a;omega))⟩
def zmo(g l base a c vs w)(h:ES w g l)(Z:g<base)(hbase:base<=w.heap.size)(aM:vs.length<=6)(aK:∀v∈vs,ER v)(z:w.ownsRow base 187 3 (.slice a vs.length c) vs.length (vs.flatMap V.cells)) :
  Ca 88 #[.pointer (some ⟨g,0,none⟩),.slice a vs.length c] w (Ut g base l a c vs w):=by
 obtain⟨HV,R,H⟩:=AK aK z h;have hlt:=h.lt;have aH:=ri (P:=prog) 38 187 _ 3 32 underlying38 Lw 7 qd qd;have aF:=ri (P:=prog) 38 187 _ 3 32 underlying38 Lw 6 qd qd;simp only[Int.cast_ofNat_Int]at aH aF;go_enter func88,ntmps88;go_wp2_with fail;refine(Gv g l w H).j ?_;rintro e p ⟨u,hu,rfl,J,hU⟩;obtain⟨K,i⟩:=An (My R J Z) (Qs.of (b:=g) (o:=(Value.slice a vs.length c).ownBlock) J);have aa:=J.1.rest.size;have s:=Fx p;obtain⟨A,B⟩:=An (λo=>AZ K (s o)) (λk(hk:(Value.slice a vs.length c).ownBlock=some k)=>(show g<k by have:=(R.lt k hk).1;omega));by_cases L:u=255
 .have q:((u:Int)==255)=true:=by simp;omega
  have O:((u:Int)==254)=false:=by simp;omega
  have y:((u:Int)==253)=false:=by simp;omega
  have t:((u:Int)==252)=false:=by simp;omega
  have r:((u:Int)==251)=false:=by simp;omega
  have n:((u:Int)==250)=false:=by simp;omega
  have E:=Ai L;go_wp2;go_ret;exact⟨some ⟨p.heap.size,0,none⟩,7,List.replicate 7 SQ,rfl,qf,Ai Sh,qU,by simpa using C4 (nW 7 qd p) qd,i.C (s _)⟩
 by_cases T:u=254
 .have q:((u:Int)==255)=false:=by simp;omega
  have O:((u:Int)==254)=true:=by simp;omega
  have y:((u:Int)==253)=false:=by simp;omega
  have t:((u:Int)==252)=false:=by simp;omega
  have r:((u:Int)==251)=false:=by simp;omega
  have n:((u:Int)==250)=false:=by simp;omega
  have E:=Ai T;go_wp2_with (first|(at_builtin;refine Dp qh (.tmp 14) (.tmp 16) 38 qh base 187 _ 3 32 underlying38 Lw qh qd _ vs.length _ qh (A _) (some ⟨_,0,none⟩) 1 1 qh (V.cells (2,0,⟨#[]⟩)) qh (λe=>qo) (CH _ _ _ _ qf) (V.cells_one _) qj qd qe ?_;intro m f I ao d D)|fail);go_ret;exact⟨m,f,vs++[(2,0,⟨#[]⟩)],qf,qe,Ai Sh,qq,Xs,(i.C (s _)).bJ d B hlt⟩
 by_cases Y:u=253
 .have q:((u:Int)==255)=false:=by simp;omega
  have O:((u:Int)==254)=false:=by simp;omega
  have y:((u:Int)==253)=true:=by simp;omega
  have t:((u:Int)==252)=false:=by simp;omega
  have r:((u:Int)==251)=false:=by simp;omega
  have n:((u:Int)==250)=false:=by simp;omega
  have E:=Ai Y;go_wp2_with (first|(at_builtin;refine Dp qh (.tmp 20) (.tmp 22) 38 qh base 187 _ 3 32 underlying38 Lw qh qd _ vs.length _ qh (A _) (some ⟨_,0,none⟩) 1 1 qh (V.cells (1,0,⟨#[45,97]⟩)) qh (λe=>qo) (CH _ _ _ _ qf) (V.cells_one _) qj qd qe ?_;intro m f I ao d D)|fail);go_ret;exact⟨m,f,vs++[(1,0,⟨#[45,97]⟩)],qf,qe,Ai Sh,qq,Xs,(i.C (s _)).bJ d B hlt⟩
 by_cases U:u=252
 .have q:((u:Int)==255)=false:=by simp;omega
  have O:((u:Int)==254)=false:=by simp;omega
  have y:((u:Int)==253)=false:=by simp;omega
  have t:((u:Int)==252)=true:=by simp;omega
  have r:((u:Int)==251)=false:=by simp;omega
  have n:((u:Int)==250)=false:=by simp;omega
  have E:=Ai U;go_wp2_with (first|(at_builtin;refine Dp qh (.tmp 26) (.tmp 28) 38 qh base 187 _ 3 32 underlying38 Lw qh qd _ vs.length _ qh (A _) (some ⟨_,0,none⟩) 1 1 qh (V.cells (1,1,⟨#[97]⟩)) qh (λe=>qo) (CH _ _ _ _ qf) (V.cells_one _) qj qd qe ?_;intro m f I ao d D)|fail);go_ret;exact⟨m,f,vs++[(1,1,⟨#[97]⟩)],qf,qe,Ai Sh,qq,Xs,(i.C (s _)).bJ d B hlt⟩
 by_cases M:u=251
 .have q:((u:Int)==255)=false:=by simp;omega
  have O:((u:Int)==254)=false:=by simp;omega
  have y:((u:Int)==253)=false:=by simp;omega
  have t:((u:Int)==252)=false:=by simp;omega
  have r:((u:Int)==251)=true:=by simp;omega
  have n:((u:Int)==250)=false:=by simp;omega
  have E:=Ai M;go_wp2;go_ret;exact⟨some ⟨p.heap.size,0,none⟩,6,List.replicate 6 SQ,rfl,qf,Ai Sh,qU,by simpa using C4 (nW 6 qd p) qd,i.C (s _)⟩
 by_cases N:u=250
 .have q:((u:Int)==255)=false:=by simp;omega
  have O:((u:Int)==254)=false:=by simp;omega
  have y:((u:Int)==253)=false:=by simp;omega
  have t:((u:Int)==252)=false:=by simp;omega
  have r:((u:Int)==251)=false:=by simp;omega
  have n:((u:Int)==250)=true:=by simp;omega
  have E:=Ai N;go_wp2_with fail;refine(oX _ p).j ?_;rintro e w2 ⟨rfl,G⟩;obtain⟨aJ,Q2⟩:=An (AZ K G) (i.C G);have aL:=G.size;have W:=Fx w2;have A:=Ai (λo=>AZ aJ (W o));unfold vV;go_wp2_with (first|(at_builtin;refine Dp qh (.tmp 35) (.tmp 37) 38 qh base 187 _ 3 32 underlying38 Lw qh qd _ vs.length _ qh (A _) (some ⟨_,0,none⟩) 1 1 qh (V.cells (1,0,⟨#[97,98,99,100,101,102,103,104,105,106,97,98,99,100,101,102,103,104,105,106]⟩)) qh (λe=>qo) (CH _ _ _ _ qf) (V.cells_one _) qj qd qe ?_;intro m f I ao d D)|fail);go_ret;exact⟨m,f,vs++[(1,0,⟨#[97,98,99,100,101,102,103,104,105,106,97,98,99,100,101,102,103,104,105,106]⟩)],qf,qe,Ai Sh,qq,Xs,(Q2.C (W _)).bJ d B hlt⟩
 have q:((u:Int)==255)=false:=by simp;omega
 have O:((u:Int)==254)=false:=by simp;omega
 have y:((u:Int)==253)=false:=by simp;omega
 have t:((u:Int)==252)=false:=by simp;omega
 have r:((u:Int)==251)=false:=by simp;omega
 have n:((u:Int)==250)=false:=by simp;omega
 go_wp2;go_ret;exact⟨a,c,vs,rfl,qd,Ai (by rw[hU.o];simp[LQ,L,T,Y,U,M,N]),HV,K,i⟩
def S6{α β:Type}{R cells}{f:α->β}{m}(b:∀x,(cells x).length=m)(O:0<m){w base t a n c}{L:List α}(h:w.ownsRow base t m (.slice a n c) n (L.flatMap cells))(g:∀x∈L,R w (cells x) (f x)):CI R none t m w a (L.map f):=by
 intro i y e;rw[yE]at e;obtain⟨x,d,rfl⟩:=Ye.1 e;have key:=λj u(hj:(cells x)[j]?=some u)=>CG h (Hf (cells:=cells) (m:=m) b L i x j u d hj);obtain⟨k,rfl,_⟩:=key 0 ((cells x)[0]'(by rw[b];exact O)) qf;refine⟨k,0,cells x,rfl,Qb.ac _ _ _,b x,λj v hj=>?_,g x (yd d)⟩
 grind
def PO.fu{w base a c L}(h:PO w base a c L):Gl none w a (L.map Prod.fst):=by
 refine S6 (cells:=DR) (λ_=>rfl) qi h.1 (λx g=>?_);obtain⟨⟨d,i,e⟩,b,_⟩:=h.2 x g;rw[e]at b;have j:Gs none w d x.1.s:=by
  have:=S6 (R:=Tm.R) (cells:=GS) (f:=id) (λ_=>rfl) qi b (λ_ _=>rfl);simpa using this
 exact⟨d,i,by rw[DR,e],j,ZG b⟩
def Fk.fv{w base a c Y}(h:Fk w base a c Y):Ih none w a (Y.map Prod.fst):=by
 refine S6 (cells:=Gx) (λ_=>rfl) qi h.1 (λx d=>?_);obtain⟨⟨g,f,e⟩,b⟩:=h.2 x d;rw[e]at b;exact⟨g,f,by rw[Gx,e],CJ.owns b⟩
def RO.fw{w base a c M}(h:RO w base a c M):Fg none w a (M.map Fi.ru):=by
 refine S6 (cells:=Fb) (λ_=>rfl) qi h.1 (λx e=>?_);obtain⟨⟨j,d,o,i⟩,⟨O,p,l,b,_⟩,m,q,k,n⟩:=h.2 x e;have g:EI none w O x.es:=by
  have:=S6 (R:=Ex.R) (cells:=Ho) (f:=id) (λ_=>rfl) qi b (λ_ _=>rfl);simpa using this
 exact⟨j,d,O,p,m,q,by unfold Fb;rw[o,l,k];simp[Fi.ru],i.fu,g,n.fv,ZG b⟩
def RO.ch{w base a c M}(h:RO w base a c M):M.length<=c:=ZG h.1
def zo4{s:ByteArray}(h:AP s.data.toList=true):s.size<=1048576:=by
 simp only[AP,ym,decide_eq_true_eq]at h;simp_all<;>omega
def Z6{s}(h:DA s=true):s.size<=1048576:=by
 rw[zlF h];trivial
def zrc{a}(h:Et a=true):a.E.size<=1048576:=by
 unfold Et at h;split at h
 .simp only[DS,ym]at h;exact zo4 h.1.1
 split at h
 .simp only[ym]at h;exact Z6 h.1.1
 split at h
 .simp only[ym]at h;exact Z6 h.1
 split at h
 .simp only[ym]at h;exact Z6 h.1
 cases h
def GR.le{K pos}:∀{b:CY}{n:Nat}{ys:AL},GR K pos n ys b->∀a∈b,Ac.le 1048576 a
 |[],n,ys,h=>by simp
 |x::r,n,ys,h=>by
  obtain⟨A,C,rfl,e,c,d⟩:=h
  intro a O
  rcases yW.1 O with rfl|O
  .exact⟨zrc c.1,qd⟩
  exact GR.le d a O
structure Ux(rs:Az):Prop where
 len:1<=rs.length/\rs.length<=8
 fN:Cf rs=(0,0,0)
 le:FD Ru.le 1048576 rs
 cV:∀x∈rs,Jd x.A
 bI:∀r∈rs,∀p∈r.x,∀t∈p.s,ER t.val
 aq:∀r∈rs, -9223372036854775808<=r.aq/\r.aq<=9223372036854775807
def vq{w base a c M}(h:RO w base a c M)(s:Mr M)(o:1<=M.length)(C:M.length<=8):Ux (M.map Fi.ru):=by
 have u:∀x∈M,∀y∈x.x,H5 w base y:=λx b y f=>by
  obtain⟨⟨G,E,H,o⟩,_⟩:=h.2 x b;exact o.2 y f
 have q:∀x∈M,∀e∈x.es,IV e:=λx b=>by
  obtain⟨_,⟨_,_,_,_,v⟩,_⟩:=h.2 x b;exact v
 have hd:∀x∈M,∃k,Sz k x.ru:=λx b=>by
  obtain⟨i,n⟩:=Ku.1 b;exact⟨i,(s i x n).1⟩
 refine⟨by simpa using And.intro o C,zq1 (λi r d=>?_) qe,⟨qe,λr d=>?_⟩,λr d e j=>?_,λr d p m t l=>?_,λr d=>?_⟩
 .rw[yE]at d;obtain⟨x,b,rfl⟩:=Ye.1 d;exact(s i x b).1
 .obtain⟨x,b,rfl⟩:=yv.1 d;obtain⟨k,D,K,pos,g⟩:=hd x b;refine⟨?_,⟨by have:=g.x;omega,λp m=>?_⟩,⟨by have:=g.A;omega,λe j=>?_⟩,by have:=g.K;omega,λa B=>?_⟩
  .rw[D];exact yi (show(Fy k).size<=2 from yA 2) qi
  .obtain⟨y,f,rfl⟩:=yv.1 m;obtain⟨_,_,z,I,O⟩:=u x b y f;exact⟨by have:=z.1;omega,qd,λt l=>⟨by have:=(O t l).1;omega,by have:=(O t l).2.1.1;omega⟩⟩
  .have:=q x b e j;exact⟨by have:=this.1;omega,by have:=this.2.1.1;omega⟩
  exact g.cB.le a B
 .obtain⟨x,b,rfl⟩:=yv.1 d;exact⟨(q x b e j).2.2.1,(q x b e j).2.2.2⟩
 .obtain⟨x,b,rfl⟩:=yv.1 d;obtain⟨y,f,rfl⟩:=yv.1 m;obtain⟨_,_,_,_,O⟩:=u x b y f;exact XZ (O t l).2.1
 obtain⟨x,b,rfl⟩:=yv.1 d;obtain⟨i,n⟩:=Ku.1 b;exact(s i x n).2
def Js(w:Aa)(a:Af)(B:Bs):Prop:=∀j x,B[j]?=some x->∃(b o:Nat),a=some ⟨b,o,none⟩/\b<w.heap.size/\w.cell? ⟨b,o+j,none⟩=some (.int .u8 (x.toNat:Int))
theorem Js.e{w w' a B}(h:Js w a B)(c:Bw w w'):Js w' a B:=λj x hj=>by
 obtain⟨b,o,d,g,f⟩:=h j x hj;exact⟨b,o,d,yg g c.size,zab c f⟩
def Js.bh{w a B c g}(h:Js w a B)(f:B.length<=1048576)(k:w.heap.size=g):ES (w.alloc (.cells #[.slice a B.length c,I6 0] 73)) g B:=by
 subst k;refine⟨a,B,c,0,heap_alloc_new _ _,yn _,f,rfl,λj x hj=>?_⟩;obtain⟨b,o,d,i,e⟩:=h j x hj;exact⟨b,o,d,i,zab Ar e⟩
section
open Go.Deep
def ztp:prog.cellsOf 5=1:=qg
def vm{a}(h:(Lit.int .u8 a).wf=true):0<=a/\a<256:=by
 have O:IntKind.u8.min=0:=rfl;have b:IntKind.u8.max=255:=rfl;simp[Lit.wf]at h;omega
section
variable {H : Type} {enc : TypeId × Value -> H} {w : Aa} {base : Nat} {spare : Nat -> Bool} {held : Bool}
def mM{n cs x}(h:DataW.trod enc prog w base spare held n 22 cs=some x):∃a B c,cs=[.slice a (List.length B) c]/\Js w a B:=by
 obtain⟨a,c,vs,e,m,_,_,hu⟩:=wT (R:=λ_ r(u:Nat)=>r=[.int .u8 (u:Int)]) (Ok:=λu=>u<256) (0:Nat) 22 5 5 1 underlying22 ztp qd (λn cs x h d=>by
  match cs,d with
  |[v0],_=>
   obtain⟨k,g,_,i⟩:=DataW.trod_int underlying5 h;obtain⟨l,s⟩:=vm i;refine⟨k.toNat,?_,qd⟩;rw[g,Int.toNat_of_nonneg l]) h
 refine⟨a,vs.map UInt8.ofNat,c,by rw[yu];exact e,λj y hj=>?_⟩;rw[yE]at hj;obtain⟨u,O,rfl⟩:=Ye.1 hj;obtain⟨b,o,r,p,_,_,d,q⟩:=m j u O;have f:=d 0 _ (by rw[q];rfl);refine⟨b,o,p,yI w ⟨b,_,none⟩ f,?_⟩;have hl:=hu u (yd O);rw[show(UInt8.ofNat u).toNat=u from Nat.mod_eq_of_lt hl];simpa using f
end
end
def ye{w base a c M}(h:RO w base a c M){i x}(n:M[i]?=some x) :
  ∃k,a=some ⟨k,0,none⟩/\k<w.heap.size/\At w k (i*5) (.string x.nm)/\At w k (i*5+1) (I6 x.aq)/\At w k (i*5+2) x.pv/\At w k (i*5+3) x.ev/\At w k (i*5+4) x.av:=by
 have key:=λj u(hj:(Fb x)[j]?=some u)=>CG h.1 (Hf (cells:=Fb) (m:=5) (λ_=>rfl) M i x j u n hj);obtain⟨k,rfl,_,O,_⟩:=key 0 _ rfl;obtain⟨t,o,_,b,_⟩:=key 1 _ rfl;obtain⟨q,g,_,p,_⟩:=key 2 _ rfl;obtain⟨r,f,_,l,_⟩:=key 3 _ rfl;obtain⟨s,d,_,e,_⟩:=key 4 _ rfl;cases o;cases g;cases f;cases d;exact⟨k,rfl,yI w ⟨k,_,none⟩ O,O,b,p,l,e⟩
def kS{w base a c L}(h:PO w base a c L){i x}(e:L[i]?=some x) :
  ∃k,a=some ⟨k,0,none⟩/\k<w.heap.size/\At w k (i*3) (.bool x.1.neg)/\At w k (i*3+1) (.string x.1.E)/\At w k (i*3+2) x.2:=by
 have key:=λj u(hj:(DR x)[j]?=some u)=>CG h.1 (Hf (cells:=DR) (m:=3) (λ_=>rfl) L i x j u e hj);obtain⟨k,rfl,_,O,_⟩:=key 0 _ rfl;obtain⟨n,f,_,b,_⟩:=key 1 _ rfl;obtain⟨l,d,_,g,_⟩:=key 2 _ rfl;cases f;cases d;exact⟨k,rfl,yI w ⟨k,_,none⟩ O,O,b,g⟩
def PO.bG{base g l l' w w' a c L}(h:PO w base a c L)(b:Rs g l w w')(d:ES w g l'):PO w' base a c L:=h.same (T:=[152,189]) (BO.bG b d qi) qi qi
def Mr.x{M}(h:Mr M){i:Nat}{x}(c:M[i]?=some x):1<=x.x.length/\x.x.length<=6:=by
 obtain⟨⟨_,K,pos,hd⟩,_⟩:=h i x c;have e:=hd.eo.1;have d:=hd.count;have a:=hd.x;simp only[Fi.ru,yu]at a;refine⟨?_,a⟩;cases b:x.x with
 |nil=>simp[Fi.ru,b,Ag]at d;omega
 |cons y r=>simp
def zsB(g l w)(h:ES w g l):Ca 86 #[Pn g] w λe w'=>∃t:Bool,e=.returned (.bool t)/\Rs g l w w'/\Hid (t=decide (l≠[])):=by
 have H:=Ai h;obtain⟨a,B,c,i,h1,j,k,b,m⟩:=h;have O:=Ai b;have f:At w g 0 (.slice a B.length c):=Xl;have d:At w g 1 (I6 (i:Int)):=Xl;go_enter func86,ntmps86;go_wp2;go_region;go_wp2;go_ret;exact⟨_,rfl,Rs.of H Au.drew,Ai (by rw[O.o];simp)⟩
structure Il where
 w:Int
 tag:Int
 E:ByteArray
 sv:Value
 vs:AH
def FH(x:Il):Aj:=[.int .i64 x.w,.int .i64 x.tag,.string x.E,x.sv]
def NZ(w:Aa)(base:Nat)(x:Il):Prop:=(∃sa sc,x.sv=.slice sa x.vs.length sc)/\w.ownsRow base 187 3 x.sv x.vs.length (x.vs.flatMap V.cells)/\x.vs.length<=7/\(∀v∈x.vs,ER v)/\x.E.size<=20/\0<=x.tag/\x.tag<=26
def OO(w:Aa)(base:Nat)(a:Af)(c:Nat)(N:List Il):Prop:=w.ownsRow base 40 4 (.slice a N.length c) N.length (N.flatMap FH)/\∀x∈N,NZ w base x
def OO.nil(w base):OO w base none 0 []:=⟨yJ _ _ _ _,λx hx=>qF⟩
def OO.rs{w w' base g l a c N}(h:OO w base a c N)(d:Rs g l w w')(e:g<base):OO w' base a c N:=⟨My h.1 d e,λx b=>⟨(h.2 x b).1,My (h.2 x b).2.1 d e,(h.2 x b).2.2⟩⟩
def OB(w:Aa)(b:Nat)(x0 x1 x2 x3:Value):Prop:=Bk w b #[x0,x1,x2,x3] 40
def OB.J{w b x0 x1 c a}(h:OB w b x0 x1 c a):(At w b 0 x0/\At w b 1 x1/\At w b 2 c/\At w b 3 a)/\(∀j,w.frozen? ⟨b,j,none⟩=false)/\b<w.heap.size:=by
 unfold OB at h;exact il
abbrev Od:=Int × Int × ByteArray × AH
def Il.d(x:Il):Od:=(x.w,x.tag,x.E,x.vs)
def ON(c n:Nat)(cls:ByteArray)(vs:AH)(l:Bs):Od × Bs:=
 if c%8=5∨c%8=6 then((2,((1+Bo l%(n+2):Nat):Int),⟨#[]⟩,[]),l.tail)
 else if c%8=7 then((3,((1+Bo l%(n+2):Nat):Int),⟨#[]⟩,vs),l.tail) else((1,0,cls,vs),l)
def Sk(c:Nat)(p:Od × Bs):Od × Bs:=if c=253 then((p.1.1,p.1.2.1,p.1.2.2.1,LQ (Bo p.2) p.1.2.2.2),p.2.tail) else p
def Ug(c:Nat)(p:Od × Bs):Od × Bs:=if c=254 then((((Bo p.2%6:Nat):Int),p.1.2),p.2.tail) else p
def Sj(rs:Az)(n:Nat)(l:Bs):Od × Bs:=
 match rs[Bo l.tail%rs.length]? with
 |none=>((0,0,⟨#[]⟩,[]),l)
 |some r=>match r.x[Bo l.tail.tail%r.x.length]? with
  |none=>((0,0,⟨#[]⟩,[]),l)
  |some p=>Ug (Bo l) (Sk (Bo l) (ON (Bo l) n p.E (Ey p.s [] l.tail.tail.tail).1 (Ey p.s [] l.tail.tail.tail).2))
def Fc(rs:Az):Nat->Nat->Bs->List Od
 |0,_,_=>[]
 |k+1,n,l=>if n=0∨l≠[] then(Sj rs n l).1::Fc rs k (n+1) (Sj rs n l).2 else []
def ztu{rs n l}(h:¬(n<24/\(n=0∨l≠[]))):Fc rs (24-n) n l=[]:=by
 by_cases a:n<24
 .rw[show 24-n=(23-n)+1 by omega,Fc,if_neg (λe=>h ⟨a,e⟩)]
 rw[show 24-n=0 by omega,Fc]
def zZ{rs n l}(h:n<24/\(n=0∨l≠[])):Fc rs (24-n) n l=(Sj rs n l).1::Fc rs (24-(n+1)) (n+1) (Sj rs n l).2:=by
 rw[show 24-n=(24-(n+1))+1 by omega,Fc,if_pos h.2]
def xN{M:List Fi}{n l i x y}(c:M[i]?=some x)(a:i=Bo l.tail%M.length)(b:x.x[Bo l.tail.tail%x.x.length]?=some y) :
  Sj (M.map Fi.ru) n l=Ug (Bo l) (Sk (Bo l) (ON (Bo l) n y.1.E (Ey y.1.s [] l.tail.tail.tail).1 (Ey y.1.s [] l.tail.tail.tail).2)):=by
 have d:(M.map Fi.ru)[Bo l.tail%(M.map Fi.ru).length]?=some x.ru:=by simp only[yu,yE];rw[<-a,c];rfl
 have e:x.ru.x[Bo l.tail.tail%x.ru.x.length]?=some y.1:=by simp only[Fi.ru,yu,yE];rw[b];rfl
 unfold Sj
 grind
def OQ(g b ob m:Nat)(p:Od × Bs)(u w:Aa):Prop:=∃x:Il,Hid (OB w ob (.int .i64 x.w) (.int .i64 x.tag) (.string x.E) x.sv)/\Hid (NZ w b x)/\x.vs.length<=m/\Hid (x.d=p.1)/\Hid (Rs g p.2 u w)
def NZ.N{w w' b d x x0 x1 i a}(h:NZ w b x)(g:OB w d x0 x1 i a)(f:Turned w w' d):NZ w' b x:=⟨h.1,Ci h.2.1 (λk c=>f.block k (λe=>by
 obtain⟨cc,O⟩:=A7 h.2.1 c;subst e;exact Cw g O qi)),h.2.2⟩
def wF:(prog.info? 40).map (λi=>(i.zero,i.size,i.bytes))=some (some (.agg #[I6 0,I6 0,.string ⟨#[]⟩,.slice none 0 0]),4,56):=qg
def gW(g l base x tag w)(h:ES w g l)(b:H5 w base x) :
  Ca 87 #[Pn g,.agg #[.bool x.1.neg,.string x.1.E,x.2],I6 tag] w λe w'=>∃sa a vs,e=.returned (.agg #[I6 tag,.string x.1.E,.slice sa (List.length vs) a])/\vs.length<=3/\w'.ownsRow w.heap.size 187 3 (.slice sa vs.length a) vs.length (vs.flatMap V.cells)/\(∀v∈vs,Hz v)/\Hid (vs=(Ey x.1.s [] l).1)/\Rs g (Ey x.1.s [] l).2 w w':=zom g l base x tag w h b
def U5{w:Aa}{b o d e c f v x0 x1 g}(h:w.cell? ⟨b,o,none⟩=some v)(a:b≠d):(((w.setCell ⟨d,e,none⟩ x0).setCell ⟨d,c,none⟩ x1).setCell ⟨d,f,none⟩ g).cell? ⟨b,o,none⟩=some v:=by
 have i:∀(u:Aa)(j:Nat)(x:Value),(u.setCell ⟨d,j,none⟩ x).cell? ⟨b,o,none⟩=u.cell? ⟨b,o,none⟩:=λu j x=>yP (w:=u) (yD u ⟨d,j,none⟩ x b a)
 grind
def zuL{w:Aa}{b o d g f i c v x0 x1 k e}(h:w.cell? ⟨b,o,none⟩=some v)(a:d≠b):((((w.setCell ⟨d,g,none⟩ x0).setCell ⟨d,f,none⟩ x1).setCell ⟨d,i,none⟩ k).setCell ⟨d,c,none⟩ e).cell? ⟨b,o,none⟩=some v:=by
 have l:∀(u:Aa)(j:Nat)(x:Value),(u.setCell ⟨d,j,none⟩ x).cell? ⟨b,o,none⟩=u.cell? ⟨b,o,none⟩:=λu j x=>yP (w:=u) (yD u ⟨d,j,none⟩ x b (WU a))
 grind
def Hx{w b ty x0 x1 a}(h:Bk w b #[x0,x1,a] ty):At w b 0 x0/\At w b 1 x1/\At w b 2 a:=by
 refine⟨?_,?_,?_⟩<;>simp[World.cell?,h]
def ls{w:Aa}{d B x0 x1 j tag b a c vs}(h:Bk w d #[x0,x1,j] 145)(g:w.ownsRow B 187 3 (.slice a vs.length c) vs.length (vs.flatMap V.cells))(hv:∀v∈vs,Hz v) :
  FB (((w.setCell ⟨d,0,none⟩ (I6 tag)).setCell ⟨d,1,none⟩ (.string b)).setCell ⟨d,2,none⟩ (.slice a vs.length c)) d B tag b a c vs:=by
 have e:=C7 (i:=0) h (I6 tag);have f:=C7 (i:=1) e (.string b);have h3:=C7 (i:=2) f (.slice a vs.length c);exact⟨OM,Is (Is (Is g h qi) e qi) f qi,hv⟩
abbrev PatS(w':Aa)(qb pk n pc:Nat)(f:Nat->NY):Prop:=w'.cell? ⟨qb,2,none⟩=some (.slice (some ⟨pk,0,none⟩) n pc)/\(∀j,j<n->w'.cell? ⟨pk,j*3,none⟩=some (.bool (f j).1.neg))/\(∀j,j<n->w'.cell? ⟨pk,j*3+1,none⟩=some (.string (f j).1.E))/\∀j,j<n->w'.cell? ⟨pk,j*3+2,none⟩=some (f j).2
def PatS.of{w base c a b L f}(l:At w c 2 (.slice (some ⟨a,0,none⟩) L.length b))(h:PO w base (some ⟨a,0,none⟩) b L)(d:∀j,j<L.length->L[j]?=some (f j)):PatS w c a L.length b f:=by
 have key:∀j,j<L.length->At w a (j*3) (.bool (f j).1.neg)/\At w a (j*3+1) (.string (f j).1.E)/\At w a (j*3+2) (f j).2:=by
  intro j hj;obtain⟨k,e,_,O,g,i⟩:=kS h (d j hj);cases e;exact⟨O,g,i⟩
 grind
def PatS.C{w w' a c n b f}(h:PatS w a c n b f)(d:Bw w w'):PatS w' a c n b f:=by grind[zab]
def PatS.alloc{w a c n b f}(h:PatS w a c n b f)(o):PatS (w.alloc o) a c n b f:=PatS.C h Ar
def PatS.eA{w b c n e d i g l x0 x1 m f}(h:PatS w b c n e f)(k:b≠d)(a:c≠d):PatS (((w.setCell ⟨d,i,none⟩ x0).setCell ⟨d,g,none⟩ x1).setCell ⟨d,l,none⟩ m) b c n e f:=⟨U5 h.1 k,λj hj=>U5 (h.2.1 j hj) a,λj hj=>U5 (h.2.2.1 j hj) a,λj hj=>U5 (h.2.2.2 j hj) a⟩
def mn{P:Aa->Prop}{w b x0 x1 m g d a O c}(j:OB w b x0 x1 m g)(h:∀wt,OB wt b d a O c->Turned w wt b->P wt):P ((((w.setCell ⟨b,0,none⟩ d).setCell ⟨b,1,none⟩ a).setCell ⟨b,2,none⟩ O).setCell ⟨b,3,none⟩ c):=by
 have e:=C7 (i:=0) j d;have l:=C7 (i:=1) e a;have k:=C7 (i:=2) l O;have f:=C7 (i:=3) k c;exact h _ (by simpa[OB] using f) (Turned.setCells [d,a,O,c] 0 w b)
def zs4{P:Aa->Prop}{w b x0 x1 c a y}(O:OB w b x0 x1 c a)(h:∀wt,OB wt b y x1 c a->Turned w wt b->P wt):P (w.setCell ⟨b,0,none⟩ y):=
 h _ (by have:=C7 (i:=0) O y;simpa[OB] using this) (Turned.setCells [y] 0 w b)
def zsd{P:Aa->Prop}{w b x0 x1 a c y}(O:OB w b x0 x1 a c)(h:∀wt,OB wt b x0 x1 a y->Turned w wt b->P wt):P (w.setCell ⟨b,3,none⟩ y):=
 h _ (by have:=C7 (i:=3) O y;simpa[OB] using this) (Turned.setCells [y] 3 w b)
def zpv(x)(h:∃sa n a,x.sv=.slice sa n a):∀u∈FH x,u.oneCell'=true:=by
 intro u hu;obtain⟨sa,n,a,h⟩:=h;simp[FH]at hu;rcases hu with rfl|rfl|rfl|rfl
 .rfl
 .rfl
 .rfl
 rw[h];rfl
def zrD(g l base a c M w)(h:ES w g l)(cf:RO w base a c M)(b0:Mr M)(dP:1<=M.length)(dV:M.length<=8) :
  Ca 42 #[.pointer (some ⟨g,0,none⟩),.slice a M.length c,.int .i64 24] w λe w'=>∃oa oc N,e=.returned (.slice oa (List.length N) oc)/\N.length<=24/\OO w' w.heap.size oa oc N/\Hid (N.map Il.d=Fc (M.map Fi.ru) 24 0 l)/\∃l',Rs g l' w w':=by
 obtain⟨H,MO,cT⟩:=AK h cf b0;clear b0;have hlt:=h.lt;clear h cf;go_enter func42,ntmps42;go_wp2
 go_loopw [7,8] (λov nv wr=>∃(n:Nat)(oa:Af)(oc:Nat)(N:List Il)(G:Bs),nv=.int .i64 (n:Int)/\ov=.slice oa N.length oc/\N.length=n/\n<=24/\OO wr w.heap.size oa oc N/\Hid (N.map Il.d++Fc (M.map Fi.ru) (24-n) n G=Fc (M.map Fi.ru) 24 0 l)/\Rs g G w wr) (λ_ nv _=>(24-intOf nv).toNat)
 .exact⟨0,none,0,[],l,rfl,rfl,rfl,qd,OO.nil _ _,Ai rfl,Rs.refl H⟩
 obtain⟨n,oa,oc,N,G,rfl,rfl,cq,dx,bQ,HE,hR⟩:=hrel;have HN:=Ai cq;have bY:N.length<=24:=qd;obtain⟨NO,R⟩:=An bQ hR;have dQ:=hR.1.rest.size;clear cq bQ hR;go_upto_region 3 with fail
 go_cut [23] (λcv wx=>∃t:Bool,cv=.bool t/\(t=true->n<24)/\Hid (t=decide (n<24/\(n=0∨G≠[])))/\Rs g G wr wx)
 .by_cases aq:n<24
  .have dp:(n:Int)<24:=qd;cases hz:((n:Int)==0)
   .go_wp2_with fail;refine(zsB g G wr R.2).j ?_;rintro e w1 ⟨t,rfl,aI,hT⟩;go_wp2;go_meet;exact⟨t,rfl,λ_=>aq,Ai (by have bD:¬n=0:=(by simp at hz;omega);rw[hT.o];simp[aq,bD]),aI⟩
   go_wp2;go_meet;exact⟨true,rfl,λ_=>aq,Ai (by have bD:n=0:=(by simp at hz;omega);simp[bD]),Rs.refl R.2⟩
  have dp:¬(n:Int)<24:=qd;go_wp2;go_meet;exact⟨false,rfl,qf,Ai (by simp[aq]),Rs.refl R.2⟩
 obtain⟨t,rfl,bn,ag,bg⟩:=hcut;obtain⟨wb,rfl⟩:=AF wc;obtain⟨cn,Rb⟩:=An (NO.rs bg hlt) (R.c bg);have cG:=Ai (MO.bG Rb H);have dS:=bg.1.rest.size;clear bg NO R;cases t with
 |false=>
  go_wp2;go_ret;exact⟨oa,oc,N,rfl,bY,cn,Ai (by have:=HE.o;rwa [ztu (by simpa using ag.o),yO]at this),_,Rb⟩
 |true=>
  have dw:n<24:=bn rfl;have aG:g<wb.heap.size:=qd;clear bn;have cU:=Ai (show n<24/\(n=0∨G≠[]) by simpa using ag.o);go_wp2_with fail;refine(Gv g G wb Rb.2).j ?_;rintro e w1 ⟨m,ef,rfl,aI,cV⟩;obtain⟨R1,bU⟩:=An aI (cG.bG aI Rb.2);have al:=aI.1.rest.size;clear aI cG;go_wp2_with fail;refine(Gv g G.tail w1 R1.2).j ?_;rintro e w2 ⟨n2,dN,rfl,bl,cW⟩;obtain⟨R2,bC⟩:=An (R1.c bl) (bU.bG bl R1.2);have dY:=bl.1.rest.size;obtain⟨i,hi⟩:=AF (n2%M.length);have cz:i<M.length:=by rw[hi];exact Wx _ qd
  have cQ:(n2:Int)%(M.length:Int)=(i:Int):=by rw[hi];push_cast;rfl
  obtain⟨d9,ed⟩:=CZ cz;have ee:¬(M.length:Int)=0:=qd;obtain⟨x,aX⟩:∃x,M[i]?=some x:=⟨M[i],by simp[cz]⟩
  obtain⟨rk,rfl,d4,c0,c1,c2,c3,c4⟩:=ye bC aX;obtain⟨⟨pa,pc,dk,b4⟩,⟨ea,ec,cX,_,_⟩,aa,ac,cY,_⟩:=bC.2 x (yd aX);obtain⟨bF,c8⟩:=cT.x aX;rw[dk]at c2;rw[cX]at c3;rw[cY]at c4;obtain⟨cy,dh,cO⟩:=AK b4 aX (show i=Bo G.tail%M.length by rw[cW.o];exact hi);clear bl hi R1 bU aX b4;go_upto_region 7 with fail;refine BF ?_;intro p a5 bt;obtain⟨Q3,R3,a0⟩:=AK (show p.cell? ⟨w2.heap.size,2,none⟩=some (.slice pa x.x.length pc)/\w2.heap.size<p.heap.size from⟨by simp[World.cell?,bt],Ap bt⟩) (R2.C a5) (cy.C a5);have dR:=a5.size;clear a5 bt c0 c1 c2 c3 c4 cQ R2 cy bC
  go_cut [11] (λfv wx=>∃(fb:Nat)(y:NY)(sa:Af)(D:Nat)(vs:AH),fv=.pointer (some ⟨fb,0,none⟩)/\wb.heap.size<=fb/\FB wx fb wb.heap.size 1 y.1.E sa D vs/\vs.length<=3/\y.1.E.size<=20/\Hid (x.x[Bo G.tail.tail%x.x.length]?=some y)/\Hid (vs=(Ey y.1.s [] G.tail.tail.tail).1)/\Rs g (Ey y.1.s [] G.tail.tail.tail).2 wb wx)
  .obtain⟨L,bw⟩:=AF x.x;obtain⟨q3,dF⟩:=Q3.o;rw[<-bw]at q3 bF c8 a0;have bN:=Ai bw;clear bw Q3;have dJ:¬L=[]:=λe=>by rw[e]at bF;simp at bF
   obtain⟨f,hf⟩:∃f:Nat->NY,∀j,j<L.length->L[j]?=some (f j):=⟨λj=>L[j]?.getD (L[0]'(by omega)),λj hj=>by simp[hj]⟩
   obtain⟨pk,cN,dA,_,_,_⟩:=kS a0 (hf 0 qd);subst cN;have W:=Ai hf;clear hf;have bL:p.drew.cell? ⟨w2.heap.size,2,none⟩=some (.slice (some ⟨pk,0,none⟩) L.length pc):=q3;obtain⟨bP,cC⟩:=An (R3.2.C (y8 _ _).drew) (a0.C (y8 _ _).drew);have eb:¬(L.length:Int)=0:=qd;have bh:=Ai (λo=>((y8 p.heap.size p).alloc (yA _) o).drew:∀o,Below p.heap.size p (p.alloc o).drew);obtain⟨bp,bO⟩:=An (λo=>R3.2.C (bh o)) (λo=>a0.C (bh o));have cD:∀o,(p.alloc o).drew.cell? ⟨w2.heap.size,2,none⟩=some (.slice (some ⟨pk,0,none⟩) L.length pc):=λo=>zab (bh o) q3;obtain⟨dj,de⟩:=An (PatS.of bL cC W) (λo=>PatS.of (cD o) (bO o) W)
   go_region_held3 (λw'=>w'.cell? ⟨w2.heap.size,2,none⟩=some (.slice (some ⟨pk,0,none⟩) L.length pc)/\(∀j,j<L.length->w'.cell? ⟨pk,j*3,none⟩=some (.bool (f j).1.neg))/\(∀j,j<L.length->w'.cell? ⟨pk,j*3+1,none⟩=some (.string (f j).1.E))/\∀j,j<L.length->w'.cell? ⟨pk,j*3+2,none⟩=some (f j).2) (first|with_reducible exact aT.o|with_reducible exact PatS.alloc aT.o _|with_reducible exact PatS.eA aT.o qd qd|with_reducible exact aL.o|with_reducible exact PatS.alloc aL.o _|with_reducible exact dj.o|with_reducible exact de.o _) (first|(go_at_call 81;refine(Gv g _ _ bP.o).j ?_;rintro e Y ⟨n3,df,rfl,U,bE⟩;have R4:=Ai ((R3.o.C (y8 _ _).drew).c U);have bB:=U.1.rest.size;(try simp at bB);have bS:w2.heap.size<Y.heap.size:=qd;have q4:=Po U bL qd;obtain⟨q,aj⟩:=AF (n3%L.length);have aA:q<L.length:=(by rw[aj];exact Wx _ qd);have cj:(n3:Int)%(L.length:Int)=(q:Int):=(by rw[aj];push_cast;rfl);have cA:(n3:Int).tmod (L.length:Int)=(q:Int):=ui;have ce:(q:Int)<(L.length:Int):=qd;have bH:(0:Int)<=(q:Int):=qd;have az:=Ai (cC.o.bG U bP.o);have aL:=Ai (PatS.of q4 az.o W.o);have PY:=Ai (az.o.2 (f q) (yd (W.o q aA)));have aF:=Ai (show x.x[Bo G.tail.tail%x.x.length]?=some (f q) from by rw[bE.o,<-bN.o,<-aj];exact W.o q aA);clear U aj q4)|(go_at_call 81;refine(Gv g _ _ (bp.o _)).j ?_;rintro e Y ⟨n3,df,rfl,U,bE⟩;have R4:=Ai ((R3.o.C (bh.o _)).c U);have bB:=U.1.rest.size;(try simp at bB);have bS:w2.heap.size<Y.heap.size:=qd;have q4:=Po U (cD _) qd;have d7:=Ai (show Bk Y (p.heap.size) #[.int .i64 0,.string ⟨#[]⟩,.slice none 0 0] 145 from DX U (heap_alloc_new _ _) (show p.heap.size≠g by omega));obtain⟨q,aj⟩:=AF (n3%L.length);have aA:q<L.length:=(by rw[aj];exact Wx _ qd);have cj:(n3:Int)%(L.length:Int)=(q:Int):=(by rw[aj];push_cast;rfl);have cA:(n3:Int).tmod (L.length:Int)=(q:Int):=ui;have ce:(q:Int)<(L.length:Int):=qd;have bH:(0:Int)<=(q:Int):=qd;have az:=Ai ((bO.o _).bG U (bp.o _));have aL:=Ai (PatS.of q4 az.o W.o);have PY:=Ai (az.o.2 (f q) (yd (W.o q aA)));have aF:=Ai (show x.x[Bo G.tail.tail%x.x.length]?=some (f q) from by rw[bE.o,<-bN.o,<-aj];exact W.o q aA);clear U aj q4)|(go_at_call 87;have cF:Hid (Bk Y (p.heap.size) #[.int .i64 0,.string ⟨#[]⟩,.slice none 0 0] 145):=qk;refine(gW g _ base (f q) 1 Y R4.o.2 PY.o).j ?_;rintro e r ⟨sa,D,vs,rfl,Z,af,aw,ax,O⟩;have S5:=Ai af;have V5:=Ai aw;have R5:=Ai ((R4.o).c O);have aK:=O.1.rest.size;(try simp at aK);have aZ:=Ai PY.o.2.2.1.1;have aT:=Ai (PatS.of (Po O aL.o.1 qd) (az.o.bG O R4.o.2) W.o);have I:=Ai (show Bk r (p.heap.size) #[.int .i64 0,.string ⟨#[]⟩,.slice none 0 0] 145 from DX O cF.o (show p.heap.size≠g by omega));have x0:r.cell? ⟨p.heap.size,0,none⟩=some (.int .i64 0):=(Hx I.o).1;have x1:r.cell? ⟨p.heap.size,1,none⟩=some (.string ⟨#[]⟩):=(Hx I.o).2.1;have x2:r.cell? ⟨p.heap.size,2,none⟩=some (.slice none 0 0):=(Hx I.o).2.2;have cr:r.frozen? ⟨p.heap.size,0,none⟩=false:=C0 I.o 0;have bX:r.frozen? ⟨p.heap.size,1,none⟩=false:=C0 I.o 1;have cg:r.frozen? ⟨p.heap.size,2,none⟩=false:=C0 I.o 2;have dt:p.heap.size<r.heap.size:=Ap I.o;have dM:r.cell? ⟨p.drew.heap.size,0,none⟩=some (.int .i64 0):=x0;have dW:r.cell? ⟨p.drew.heap.size,1,none⟩=some (.string ⟨#[]⟩):=x1;have d5:r.cell? ⟨p.drew.heap.size,2,none⟩=some (.slice none 0 0):=x2;have dI:r.frozen? ⟨p.drew.heap.size,0,none⟩=false:=cr;have dD:r.frozen? ⟨p.drew.heap.size,1,none⟩=false:=bX;have dz:r.frozen? ⟨p.drew.heap.size,2,none⟩=false:=cg;clear af aw O)|(go_at_call 87;have aJ:=Fx Y;refine(gW g _ base (f q) 1 _ (R4.o.2.C (aJ.o _)) (PY.o.C (aJ.o _))).j ?_;rintro e r ⟨sa,D,vs,rfl,Z,af,aw,ax,O⟩;have S5:=Ai af;have V5:=Ai aw;have R5:=Ai ((R4.o.C (aJ.o _)).c O);have aK:=O.1.rest.size;(try simp at aK);have aZ:=Ai PY.o.2.2.1.1;have aT:=Ai (PatS.of (Po O (zab (aJ.o _) aL.o.1) qd) ((az.o.C (aJ.o _)).bG O (R4.o.2.C (aJ.o _))) W.o);have I:=Ai (show Bk r (Y.heap.size) #[.int .i64 0,.string ⟨#[]⟩,.slice none 0 0] 145 from DX O (heap_alloc_new _ _) (show Y.heap.size≠g by omega));obtain⟨x0,x1,x2⟩:=Hx I.o;have cr:=C0 I.o 0;have bX:=C0 I.o 1;have cg:=C0 I.o 2;clear af aw O)|(go_at_call 87;refine(gW g _ base (f q) 1 Y R4.o.2 PY.o).j ?_;rintro e r ⟨sa,D,vs,rfl,Z,af,aw,ax,O⟩;have S5:=Ai af;have V5:=Ai aw;have R5:=Ai ((R4.o).c O);have aK:=O.1.rest.size;(try simp at aK);have aZ:=Ai PY.o.2.2.1.1;have aT:=Ai (PatS.of (Po O aL.o.1 qd) (az.o.bG O R4.o.2) W.o);clear af aw O))
   .go_wp2;go_meet;exact⟨r.heap.size,f q,sa,D,vs,rfl,qd,⟨heap_alloc_new _ _,AZ (C4 S5 qd) ((y8 _ _).alloc (yA _) _),V5⟩,Z,aZ,aF,ax,R5.C ((y8 _ _).alloc (yA _) _)⟩
   .go_wp2;go_meet;exact⟨Y.heap.size,f q,sa,D,vs,rfl,qd,ls I (C4 S5 qe) V5,Z,aZ,aF,ax,((R5.am qd qd).am qd qd).am qd qd⟩
   go_wp2;go_meet;exact⟨p.heap.size,f q,sa,D,vs,rfl,qd,ls I (C4 S5 qd) V5,Z,aZ,aF,ax,((R5.am qd qd).am qd qd).am qd qd⟩
  obtain⟨fb,y,sa,D,vs,rfl,dZ,aQ,Z,ae,aF,ax,bc⟩:=hcut;have aE:=Ai (xN (n:=n) dh cO aF);rw[cV.o,<-ax.o]at aE;obtain⟨A,bM⟩:=AF ((Ey y.1.s [] G.tail.tail.tail).2);obtain⟨u,bm⟩:=AF y.1.E;rw[<-bM]at bc aE;rw[<-bm]at aQ ae aE;clear bM bm aF ax;obtain⟨r,rfl⟩:=AF wc;obtain⟨F5,R5⟩:=An aQ bc;have aK:=bc.1.rest.size;obtain⟨d0,d1,d2⟩:=aQ.cells;have dE:fb<r.heap.size:=Ap aQ.1;clear aQ bc R3 a0 Q3;go_upto_region 9 with fail;refine BF ?_;intro w6 bj aP;obtain⟨B,co⟩:=AF r.heap.size;rw[<-co]at aP⊢;obtain⟨O6,F6,R6⟩:=AK (show OB w6 B (.int .i64 1) (.int .i64 0) (.string u) (.slice sa vs.length D) from aP) (F5.C bj) (R5.C bj);have aH:wb.heap.size<=B:=qd;have bI:B≠fb:=qd;have d8:=bj.size;have V6:=Ai F6.2.2;have bZ:fb≠g:=qd;clear bj aP d0 d1 d2 co F5 R5
  go_upto_block 2 with fail
  go_cut [] (λwx=>OQ g wb.heap.size B 3 (ON m n u vs A) wb wx)
  .by_cases aR:m%8=5∨m%8=6
   .have du:¬((n:Int)+2)=0:=qd;have dr:=Ai (show ON m n u vs A=((2,((1+Bo A%(n+2):Nat):Int),⟨#[]⟩,[]),A.tail) from if_pos aR);have cu:∀T,Rs g A.tail w6 T->∀b:Nat,Hid (b=1+Bo A%(n+2))->1<=b/\b<=26->∀wt,OB wt B (.int .i64 2) (.int .i64 (b:Int)) (.string ⟨#[]⟩) (.slice none 0 0)->Turned T wt B->OQ g wb.heap.size B 3 (ON m n u vs A) wb wt:=λT hr b cI ht wt hO hT=>by
     rw[dr.o,<-cI.o];exact⟨⟨2,b,⟨#[]⟩,.slice none 0 0,[]⟩,hO,⟨⟨none,0,rfl⟩,yJ _ _ _ _,qf,qf,show(0:Nat)<=20 by decide,show(0:Int)<=(b:Int)/\(b:Int)<=26 by omega⟩,qf,Ai rfl,(R6.c hr).N hT aH aG⟩
    have cZ:=Ai cu;clear cu;obtain⟨⟨f0,f1,f2,f3⟩,z,ao⟩:=O6.J;have dg:=Ai (Gv g A w6 R6.2);clear z;have cM:((m:Int)%8==5)=true∨(((m:Int)%8==5)=false/\((m:Int)%8==6)=true):=by
     rcases aR with h|h
     .exact .inl qe
     exact .inr ⟨qe,qe⟩
    clear aR;rcases cM with b5|⟨b5,b6⟩
    all_goals
     go_wp2_with fail;refine dg.j ?_;rintro e T ⟨n7,dl,rfl,ar,bG⟩;have O7:=Ai (show OB T B _ _ _ _ from DX ar O6 qd);have H7:=Ai (cZ T ar);clear ar f0 f1 f2 f3 ao;obtain⟨⟨f0,f1,f2,f3⟩,z,ao⟩:=O7.J;have z0:=z 0;have z1:=z 1;have z2:=z 2;have z3:=z 3;clear z;obtain⟨b,am⟩:=AF (1+n7%(n+2));have aY:=Wx n7 (show 0<n+2 by omega);have bT:1+(n7:Int)%((n:Int)+2)=(b:Int):=(by rw[am];push_cast;rfl)
     have bJ:1+(n7:Int).tmod ((n:Int)+2)=(b:Int):=(by rw[WW qd];exact bT)
     have bo:1<=b/\b<=26:=qd;have bA:=Ai (show b=1+Bo A%(n+2) by rw[bG.o];exact am);clear am aY;go_wp2_with fail;refine mn O7 ?_;intro wt hO hT;go_meet;exact H7 b bA bo wt hO hT
   have b5:((m:Int)%8==5)=false:=by simp;omega
   have b6:((m:Int)%8==6)=false:=by simp;omega
   by_cases h7:m%8=7
   .have b7:((m:Int)%8==7)=true:=by simp;omega
    have f6:=F6.cells.2.2;have bV:w6.drew.cell? ⟨fb,2,none⟩=some (.slice sa vs.length D):=f6;have dq:=Ai (R6.2.C (y8 _ _).drew);have Od:=Ai (show OB w6.drew B _ _ _ _ from O6);go_upto_region 14 with fail;obtain⟨m2,cm⟩:=AF (n+2);have dB:(n:Int)+2=(m2:Int):=qd;have dH:¬(m2:Int)=0:=qd;have bK:0<m2/\m2<=26:=qd;have dy:IntKind.i64.wrap ((n:Int)+2)=(m2:Int):=by rw[Yh]<;>omega
    have dL:IntKind.i64.wrap (m2:Int)=(m2:Int):=by rw[Yh];omega
    have dC:((m2:Int)==0)=false:=by simp;omega
    have dG:¬(m2:Int) = -1:=qd;have ds:¬m2=0:=qd;have cS:=Ai cm;clear cm
    go_region_held3 (λw'=>w'.cell? ⟨fb,2,none⟩=some (.slice sa vs.length D)) (first|with_reducible exact bV|with_reducible exact f7|with_reducible exact zuL f7 bI) ((go_at_call 81;refine(Gv g A _ dq.o).j ?_;rintro e T ⟨n7,dl,rfl,ar,bG⟩;have f7:=Po ar bV bZ;have O7:=Ai (show OB T B _ _ _ _ from DX ar Od.o qd);have R7:=Ai ((R6.o.C (y8 _ _).drew).c ar);have S7:=Ai (My (AZ F6.o.2.1 (y8 _ _).drew) ar aG);obtain⟨⟨f0,f1,f2,f3⟩,z,ao⟩:=O7.o.J;have z0:=z 0;have z1:=z 1;have z2:=z 2;have z3:=z 3;clear z;obtain⟨r7,aU⟩:=AF (n7%m2);have aY:=Wx n7 bK.1;have cP:(n7:Int)%(m2:Int)=(r7:Int):=(by rw[aU];push_cast;rfl);have dU:(n7:Int).tmod (m2:Int)=(r7:Int):=(by rw[WW qd];exact cP);obtain⟨b,am⟩:=AF (1+r7);have bT:1+(r7:Int)=(b:Int):=qd;have bJ:IntKind.i64.wrap (b:Int)=(b:Int):=(by rw[Yh];omega);have dv:IntKind.i64.wrap (r7:Int)=(r7:Int):=(by rw[Yh];omega);have dK:r7<26:=qd;have bo:1<=b/\b<=26:=qd;have bA:=Ai (show b=1+Bo A%(n+2) by rw[bG.o,<-cS.o,<-aU];exact am);clear am aY aU;clear ar))
    go_wp2_with fail;refine mn O7 ?_;intro wt ay aC;go_meet;have aB:NZ T wb.heap.size ⟨3,(b:Int),⟨#[]⟩,.slice sa vs.length D,vs⟩:=⟨⟨sa,D,rfl⟩,S7,yi Z qi,λv hv=>XZ (V6 v hv),show(0:Nat)<=20 by decide,show(0:Int)<=(b:Int)/\(b:Int)<=26 by omega⟩
    rw[show ON m n u vs A=((3,((1+Bo A%(n+2):Nat):Int),⟨#[]⟩,vs),A.tail) from(if_neg aR).c (if_pos h7),<-bA.o];exact⟨⟨3,(b:Int),⟨#[]⟩,.slice sa vs.length D,vs⟩,ay,aB.N O7 aC,Z,Ai rfl,R7.N aC aH aG⟩
   have b7:((m:Int)%8==7)=false:=by simp;omega
   go_wp2;go_meet;rw[show ON m n u vs A=((1,0,u,vs),A) from(if_neg aR).c (if_neg h7)];exact⟨⟨1,0,u,.slice sa vs.length D,vs⟩,O6,⟨⟨sa,D,rfl⟩,F6.2.1,yi Z qi,λv hv=>XZ (V6 v hv),ae,show(0:Int)<=0/\(0:Int)<=26 by decide⟩,Z,Ai rfl,R6⟩
  obtain⟨x,aB,aN,cR,bk,aD⟩:=hcut;obtain⟨K,cB⟩:=AF (ON m n u vs A);rw[<-cB]at bk aD aE;clear cB;obtain⟨T,rfl⟩:=AF wc;clear O6 F6 R6 V6;obtain⟨⟨xa,xc,au⟩,_⟩:=aN.o;rw[au]at aB;go_upto_if 77 with fail
  go_cut [] (λwx=>OQ g wb.heap.size B 7 (Sk m K) wb wx)
  .obtain⟨⟨f0,f1,f2,f3⟩,z,ao⟩:=aB.J;have z3:=z 3;clear z;by_cases aO:m=253
   .have cw:((m:Int)==253)=true:=by simp;omega
    have cL:=Ai (show Sk m K=((K.1.1,K.1.2.1,K.1.2.2.1,LQ (Bo K.2) K.1.2.2.2),K.2.tail) from if_pos aO);clear aO;have di:=aD.1.rest.size;have aV:=aN.2.1;rw[au]at aV;have HWR:=Ai (zmo g K.2 wb.heap.size xa xc x.vs T aD.2 aG di qd aN.2.2.2.1 aV);go_wp2_with fail;refine HWR.j ?_;rintro e w8 ⟨bz,bu,ab,rfl,cd,dd,bq,ci,hq⟩;have br:w8.heap[B]?=T.heap[B]?:=hq.block B ao qd qd (λe=>by
     obtain⟨cc,dm⟩:=A7 aV e;exact Cw aB dm qi)
    obtain⟨O8,P8,R8⟩:=AK (show OB w8 B (.int .i64 x.w) (.int .i64 x.tag) (.string x.E) (.slice xa x.vs.length xc) from br.c aB) (show NZ w8 wb.heap.size ⟨x.w,x.tag,x.E,.slice bz ab.length bu,ab⟩ from⟨⟨bz,bu,rfl⟩,ci,cd,bq,aN.2.2.2.2⟩) (show Rs g K.2.tail wb w8 from⟨⟨aD.1.rest.c hq.rest,λk hk ad=>(hq.block k (yg hk aD.1.rest.size) (λe=>ad Ij) (λe=>ad Ij) (λe=>by have:=(aV.lt k e).1;omega)).c (aD.1.block k hk ad)⟩,hq.bh⟩);clear f0 f1 f2 f3 z3 ao hq ci bq br HWR aV;obtain⟨⟨f0,f1,f2,f3⟩,z,ao⟩:=O8.J;have z3:=z 3;clear z;go_wp2_with fail;refine zsd O8 ?_;intro wt ay aC;go_meet;rw[cL.o];exact⟨⟨x.w,x.tag,x.E,.slice bz ab.length bu,ab⟩,ay,P8.N O8 aC,cd,Ai (by rw[<-bk.o];simp only[Il.d];rw[dd.o]),R8.N aC aH aG⟩
   have cw:((m:Int)==253)=false:=by simp;omega
   go_wp2;go_meet;rw[show Sk m K=K from if_neg aO];exact⟨x,by rw[au];exact aB,aN,qd,bk,aD⟩
  obtain⟨y,a4,aM,hy7,a6,aS⟩:=hcut;obtain⟨p8,b8⟩:=AF (Sk m K);rw[<-b8]at a6 aS aE;clear b8 bk;obtain⟨w8,rfl⟩:=AF wc;clear aB aN aD cR au;obtain⟨⟨ya,yc,bf⟩,_⟩:=aM.o;rw[bf]at a4;go_upto_if 84 with fail
  go_cut [] (λwx=>OQ g wb.heap.size B 7 (Ug m p8) wb wx)
  .by_cases aW:m=254
   .have cE:((m:Int)==254)=true:=by simp;omega
    have cK:=Ai (show Ug m p8=((((Bo p8.2%6:Nat):Int),p8.1.2),p8.2.tail) from if_pos aW);clear aW;have bR:=Ai (Gv g p8.2 w8 aS.2);go_wp2_with fail;refine bR.j ?_;rintro e w9 ⟨n9,d6,rfl,a8,cJ⟩;have O9:=Ai (show OB w9 B _ _ _ _ from DX a8 a4 qd);obtain⟨P9,R9⟩:=An (show NZ w9 wb.heap.size ⟨(n9:Int)%6,y.tag,y.E,y.sv,y.vs⟩ from⟨aM.1,My aM.2.1 a8 aG,aM.2.2⟩) (aS.c a8);clear a8 bR;obtain⟨⟨f0,f1,f2,f3⟩,z,ao⟩:=O9.J;have z0:=z 0;clear z;go_wp2_with fail;refine zs4 O9 ?_;intro wt ay aC;go_meet;rw[cK.o,cJ.o];exact⟨⟨(n9:Int)%6,y.tag,y.E,y.sv,y.vs⟩,by rw[bf];exact ay,P9.N O9 aC,hy7,Ai (by rw[<-a6.o];rfl),R9.N aC aH aG⟩
   have cE:((m:Int)==254)=false:=by simp;omega
   go_wp2;go_meet;rw[show Ug m p8=p8 from if_neg aW];exact⟨y,by rw[bf];exact a4,aM,hy7,a6,aS⟩
  obtain⟨x,ay,bi,dX,bW,a7⟩:=hcut;rw[<-aE.o]at bW a7;clear aE a6;obtain⟨wt,rfl⟩:=AF wc;clear a4 aM aS hy7 bf;obtain⟨⟨xa,xc,au⟩,_⟩:=bi.o;rw[au]at ay;obtain⟨⟨f0,f1,f2,f3⟩,_,ao⟩:=ay.J;have dT:=a7.1.rest.size;have bd:=Ai (cn.rs a7 hlt);have HW:=Fx wt;have TY:=Ai (λo k hk=>A7 (AZ bd.1 (HW o)) (k:=k) hk);obtain⟨kd,b,cl,sv,us⟩:=x;dsimp only at au f0 f1 f2 f3;subst au;go_wp2_with (first|(at_builtin;refine Dp qh (.tmp 89) (.tmp 91) 32 qh w.heap.size 40 _ 4 56 underlying32 wF qh qd _ N.length _ qh (AZ bd.1 (HW _)) (some ⟨_,0,none⟩) 1 1 qh (FH ⟨kd,b,cl,.slice xa us.length xc,us⟩) qh (λe=>qo) (CH _ _ _ _ qf) (zpv _ ⟨_,_,_,rfl⟩) qj qd qe ?_;intro a9 c9 w9 cH ch dO)|fail);go_roundw
  case rel=>
   refine⟨n+1,a9,c9,N++[⟨kd,b,cl,.slice xa us.length xc,us⟩],_,qm,qf,by simp;exact HN,qd,⟨by simpa using cH.o,λy hy=>?_⟩,Ai (by rw[<-HE.o,zZ cU.o,<-bW.o];simp),((Rb.c a7).C (HW _)).grown ch (λk hk=>(bd.1.lt k hk).1) hlt⟩;have bv:NZ wt w.heap.size y:=by
    rcases yp.1 hy with hy|hy
    .exact bd.2 y hy
    rw[yw.1 hy];exact⟨bi.1,C4 bi.2.1 qd,bi.2.2⟩
   exact⟨bv.1,JZ (AZ bv.2.1 (HW _)) ch (TY _) qi,bv.2.2⟩
  case measure=>(simp[intOf];omega)
def zkO(g l v w)(h:ES w g l):Ca 82 #[Pn g,v,I6 0] w λe w'=>e=.returned (.slice none 0 0)/\∃l',Rs g l' w w':=by
 go_enter func82,ntmps82;go_wp2_with fail;refine(Gv g l w h).j ?_;rintro e c ⟨f,d,rfl,O,_⟩;go_wp2
 go_loopw [7,9] (λb a wr=>b=.slice none 0 0/\a=I6 0/\wr=c) (λ_ _ _=>0)
 .exact⟨rfl,qf,rfl⟩
 obtain⟨rfl,rfl,rfl⟩:=hrel;go_wp2;go_ret;exact⟨rfl,_,O⟩
def K_(nx cp:Int)(sg:Bool):Value:=.agg #[.slice none 0 0,.int .i64 nx,.int .i64 cp,.bool sg]
def SB(w:Aa)(b:Nat)(nx cp:Int)(sg:Bool):Prop:=Bk w b #[.slice none 0 0,.int .i64 nx,.int .i64 cp,.bool sg] 27
def SB.J{w b nx cp sg}(h:SB w b nx cp sg):(At w b 0 (.slice none 0 0)/\At w b 1 (I6 nx)/\At w b 2 (I6 cp)/\At w b 3 (.bool sg))/\(∀j,w.frozen? ⟨b,j,none⟩=false)/\b<w.heap.size:=by
 unfold SB at h;exact il
def ztB{P:Aa->Prop}{w b nx cp v sg}(O:SB w b nx cp sg)(h:∀wt,SB wt b nx v sg->Turned w wt b->P wt):P (w.setCell ⟨b,2,none⟩ (I6 v)):=
 h _ (by have:=C7 (i:=2) O (I6 v);simpa[SB] using this) (Turned.setCells [I6 v] 2 w b)
def ztH{P:Aa->Prop}{w b nx cp v sg}(O:SB w b nx cp sg)(h:∀wt,SB wt b v cp sg->Turned w wt b->P wt):P (w.setCell ⟨b,1,none⟩ (I6 v)):=
 h _ (by have:=C7 (i:=1) O (I6 v);simpa[SB] using this) (Turned.setCells [I6 v] 1 w b)
def RO.N{w w' base d a c M nx cp sg}(h:RO w base a c M)(e:Turned w w' d)(hd:SB w d nx cp sg):RO w' base a c M:=h.same (BO.kept (d:=d) (λk b _=>e.block k b) hd qi)
def Mj{g l w v x0 x1 c b}(h:Rs g l w v)(a:g<w.heap.size):Rs g l w ((((v.drew.setCell ⟨w.heap.size,0,none⟩ x0).setCell ⟨w.heap.size,1,none⟩ x1).setCell ⟨w.heap.size,2,none⟩ c).setCell ⟨w.heap.size,3,none⟩ b):=
 ((((h.C Au.drew).am Bg a).am Bg a).am Bg a).am Bg a
def Mq{v base d a c M nx cp sg x0 x1 e b}(h:RO v base a c M)(hd:SB v d nx cp sg):RO ((((v.setCell ⟨d,0,none⟩ x0).setCell ⟨d,1,none⟩ x1).setCell ⟨d,2,none⟩ e).setCell ⟨d,3,none⟩ b) base a c M:=h.same (BO.kept (d:=d) (λk f _=>(Turned.setCells [x0,x1,e,b] 0 v d).block k f) hd qi)
def ii(h:P:=by exact Mq (v:=World.drew _) (ak.C (y8 _ _).drew) af):=h
def zlu(g l w)(h:ES w g l):Ca 34 #[.pointer (some ⟨g,0,none⟩),.int .i64 0] w λe w'=>∃a c M nx cp sg,e=.returned (.tuple #[.slice a (List.length M) c,K_ nx cp sg])/\1<=M.length/\M.length<=8/\Mr M/\RO w' w.heap.size a c M/\Hid (M.map Fi.ru=(LA Fy 3 l).1)/\∃l',Rs g l' w w':=by
 have H:=Ai h;have hlt:=h.lt;have HA:=Fx w;have aK:=Ai (λo=>H.C (HA o));go_enter func34,ntmps34;go_wp2_with fail;refine(zhX g 3 l _ (aK _) qd qd).j ?_;rintro e y ⟨a,c,M,rfl,B,aV,aO,aJ,aG,T⟩;have D:M.length<=8:=qd;obtain⟨U,aB,aQ,R1⟩:=BP aO (show SB y w.heap.size 0 0 false from DX aG (heap_alloc_new _ _) qd) (aJ.lower (base':=w.heap.size) qf) ((Rs.of H (HA _)).c aG);have aa:w.heap.size<y.heap.size:=Ap aB;go_wp2_with fail;refine(Gv g _ y R1.2).j ?_;rintro e r ⟨I,aR,rfl,p,_⟩;obtain⟨aI,aN,R2⟩:=AK (show SB r w.heap.size 0 0 false from DX p aB qd) (aQ.rs p hlt) (R1.c p);have a4:=p.1.rest.size;go_upto_region 3 with fail;refine BF ?_;intro E n aF;have S3:=Ai (show SB E r.heap.size _ _ _ from aF);obtain⟨aH,aM,R3⟩:=AK (show SB E w.heap.size 0 0 false from(n.block _ qd).c aI) (aN.C n) (R2.C n);have aX:=n.size;go_wp2_with fail;refine(zkO g _ _ E R3.2).j ?_;rintro e w4 ⟨rfl,R,k⟩;have S4:=Ai (show SB w4 r.heap.size _ _ _ from DX k S3 qd);obtain⟨aP,aL,R4⟩:=AK (show SB w4 w.heap.size 0 0 false from DX k aH qd) (aM.rs k hlt) (R3.c k);have aW:=k.1.rest.size;go_wp2
 go_loopw [23] (λiv wr=>iv=.int .i64 0/\wr=w4) (λ_ _=>0)
 .exact⟨rfl,rfl⟩
 obtain⟨rfl,rfl⟩:=hrel;go_wp2_with fail;refine(Gv g _ wr R4.2).j ?_;rintro e w5 ⟨b,aZ,rfl,i,_⟩;have f:=Ai (show SB w5 r.heap.size _ _ _ from DX i S4 qd);obtain⟨q,K,t⟩:=AK (show SB w5 w.heap.size 0 0 false from DX i aP qd) (aL.rs i hlt) (R4.c i);have aT:=i.1.rest.size;obtain⟨⟨L,G,u,s⟩,z,aY⟩:=f.J;have z1:=z 1;have z2:=z 2;obtain⟨⟨e0,e1,e2,e3⟩,O,aU⟩:=q.J;have A:=O 0;have Y:=O 1;have Z:=O 2;have x:=O 3;by_cases a0:b%16=0
 .have aE:((b:Int)%16==0)=true:=by simp;omega
  have ar:((b:Int)%32==1)=false:=by simp;omega
  go_upto_region 13 with fail
  refine ztB f ?_;intro wt W d;obtain⟨St,af,ak,m⟩:=BP W (show SB wt w.heap.size 0 0 false from(d.block _ qd).c q) (K.N d f) (t.N d qd hlt);obtain⟨⟨L,G,u,s⟩,_,aC⟩:=St.J;obtain⟨⟨e0,e1,e2,e3⟩,O,aD⟩:=af.J;have A:=O 0;have Y:=O 1;have Z:=O 2;have x:=O 3;go_region;go_wp2;refine bodyPost_ret (v:=.tuple #[.slice a M.length c,K_ 1 0 (((I:Int)%2==1))]) jY rfl ⟨a,c,M,1,0,_,rfl,B,D,U,?_,T,R.tail,?_⟩
  .exact ii
  exact Mj m hlt
 have aE:((b:Int)%16==0)=false:=by simp;omega
 by_cases aS:b%32=1
 .have ar:((b:Int)%32==1)=true:=by simp;omega
  go_upto_region 13 with fail
  refine ztH f ?_;intro wt W d;obtain⟨St,af,ak,m⟩:=BP W (show SB wt w.heap.size 0 0 false from(d.block _ qd).c q) (K.N d f) (t.N d qd hlt);obtain⟨⟨L,G,u,s⟩,_,aC⟩:=St.J;obtain⟨⟨e0,e1,e2,e3⟩,O,aD⟩:=af.J;have A:=O 0;have Y:=O 1;have Z:=O 2;have x:=O 3;go_region;go_wp2;refine bodyPost_ret (v:=.tuple #[.slice a M.length c,K_ 1000000 12 (((I:Int)%2==1))]) jY rfl ⟨a,c,M,1000000,12,_,rfl,B,D,U,?_,T,R.tail,?_⟩
  .exact ii
  exact Mj m hlt
 have ar:((b:Int)%32==1)=false:=by simp;omega
 go_upto_region 13 with fail
 obtain⟨St,af,ak,m⟩:=BP f q K t;obtain⟨⟨L,G,u,s⟩,_,aC⟩:=St.J;obtain⟨⟨e0,e1,e2,e3⟩,O,aD⟩:=af.J;have A:=O 0;have Y:=O 1;have Z:=O 2;have x:=O 3;go_region;go_wp2;refine bodyPost_ret (v:=.tuple #[.slice a M.length c,K_ 1 12 (((I:Int)%2==1))]) jY rfl ⟨a,c,M,1,12,_,rfl,B,D,U,?_,T,R.tail,?_⟩
 .exact ii
 exact Mj m hlt
def OO.lower{w base base' a c N}(h:OO w base a c N)(d:base'<=base):OO w base' a c N:=⟨C4 h.1 d,λx b=>⟨(h.2 x b).1,C4 (h.2 x b).2.1 d,(h.2 x b).2.2⟩⟩
def sP(a B c w)(h:Js w a B)(A:B.length<=1048576):Ca 7 #[.slice a B.length c,.int .i64 0] w λe w'=>∃O b M nx cp sg,e=.returned (.tuple #[.slice O (List.length M) b,K_ nx cp sg])/\1<=M.length/\M.length<=8/\Mr M/\RO w' w.heap.size O b M/\Hid (M.map Fi.ru=(LA Fy 3 B).1)/\Below w.heap.size w w':=by
 have t:=Ai h;have i:=Fx w;have RD:=Ai (λo=>(t.e (i o)).bh (c:=c) A (g:=w.heap.size+1) qf);go_enter func7,ntmps7;go_wp2_with fail;refine(zlu (w.heap.size+1) B _ (RD _)).j ?_;rintro e k ⟨O,b,M,nx,cp,sg,rfl,C,u,s,m,y,E,d⟩;obtain⟨n,f,x,D⟩:=BP s (show SB k w.heap.size 0 0 false from DX d ((yN _ _ _ qf).c (heap_alloc_new _ _)) qd) (m.lower (base':=w.heap.size) qe) (show Below w.heap.size w k from(((i _).alloc qf _).c (d.1.e qe (λg hg=>jQ))));obtain⟨⟨l,q,r,p⟩,z,L⟩:=f.J;have H:=z 0;have I:=z 1;have G:=z 2;have K:=z 3;unfold K_;go_wp2;refine bodyPost_ret (v:=.tuple #[.slice O M.length b,K_ nx cp sg]) (by simp[results,results7,go_sem,l,q,r,p,K_]) rfl ⟨O,b,M,nx,cp,sg,rfl,C,u,n,?_,y,?_⟩
 .exact Mq x f
 exact(((D.setCell (yA _) _).setCell (yA _) _).setCell (yA _) _).setCell (yA _) _
def zmw(a B c p b m w)(h:Js w a B)(T:B.length<=1048576)(H:Js w p b)(R:b.length<=1048576):Ca 9 #[.slice a B.length c,.slice p b.length m] w λe w'=>∃f i N,e=.returned (.slice f (List.length N) i)/\N.length<=24/\OO w' w.heap.size f i N/\Hid (N.map Il.d=Fc (LA Fy 3 B).1 24 0 b)/\Below w.heap.size w w':=by
 obtain⟨W,s⟩:=An H (sP a B c w h T);go_enter func9,ntmps9;go_wp2_with fail;refine s.j ?_;rintro e w1 ⟨Z,E,M,nx,cp,sg,rfl,L,q,y,z,I,l⟩;obtain⟨A,D,x⟩:=AK y z l;have U:=l.size;unfold K_;go_upto_region 2 with fail;refine BF ?_;intro k O _;obtain⟨K,n⟩:=An (D.C O) (x.thn O);have aB:=O.size;have v:=Fx k;have RD:=Ai ((W.e n).bh (c:=m) R (g:=k.heap.size) rfl);go_wp2_with fail;refine(zrD k.heap.size b w.heap.size Z E M _ RD (K.C (v _)) A L q).j ?_;rintro e t ⟨f,i,N,rfl,hN,J,r,l3,G⟩;obtain⟨Y,u⟩:=An (J.lower (show w.heap.size<=_ by simp;omega)) (show Below w.heap.size w t from(n.alloc qd _).c (G.1.e qe (λg hg=>jQ)));go_wp2;go_ret;exact⟨f,i,N,rfl,hN,Y,Ai (by rw[<-I.o];exact r),u⟩
end Go.Proofs.YtikojfajahnhgaaGreat
