import Derived.Test.YtikojfajahnhgaaGreatKbt
set_option linter.all false
set_option maxHeartbeats 6400000
set_option maxRecDepth 100000
namespace Go.Proofs.YtikojfajahnhgaaGreat
attribute [local simp] At I6 Pn mzI
attribute [local go_sem] At I6 Pn
open Go.RowKit Go.Proofs.Tryz
section
open Go.Maps
attribute [local go_sem ↓] wp_at_zero wp_at_succ
def EB.more{U O X g}(h:EB U X g)(e:∀f∈U,f∈O):EB O X g:=λc a=>⟨λf d=>by
 obtain⟨i,b⟩:=yg.1 ((h c a).1 f d);exact yg.2 ⟨e f i,b⟩,(h c a).2⟩
def Ch.next{N adr U vw g Y a k m old w w'}(h:Ch N adr U vw (λi=>if i<k then Y else g) a w)(l:FH N)(f:N.Ms[k]?=some m)(n:a[k]?=some old)(j:m.St adr U vw Y old w')(o:CK w w')(p:Av m.S w w'):Ch N adr U vw (λi=>if i<k+1 then Y else g) a w':=λi d O b c=>by
 by_cases e:i=k
 .subst e;rw[f]at b;rw[n]at c;cases b;cases c;simpa using j
 have:=(h i d O b c).keep o p (l.apart i k d m b f e);by_cases q:i<k
 .simpa[q,show i<k+1 by omega] using this
 simpa[q,show¬i<k+1 by omega] using this
def mh{P:Prop}(h:P:=by have hi:=(yf.1 h1).1;simpa[hi] using MR.o i m old h1 h2):P:=h
def og{P:Prop}(h:P:=by
 go_wp2_with fail;refine HS.o.an λw3⟨ai,O,Y⟩=>?_;obtain⟨ay,aw,aq⟩:=AQ (MR.o.next HN.o HX.o aG.o ai O Y) (CR.o.j O) (PR.o.j (Y.ac λg hg=>⟨_,aH.o,hg⟩));clear ai O Y HS r0;go_wp2_with fail;go_roundw
 case rel=>exact⟨k+1,by go_num,by omega,ay.o,aw.o,aq.o⟩
 case measure=>(simp;omega)
 ):P:=h
def vL(N)(p:FH N)(adr adr' U fs V a n D f b w)(h:DV N adr U fs V w)(hF:Gi adr U fs)(hM:Ch N adr U (N.vw V fs) (λ_=>gV (N.vw V fs)) a w)(ho:a.length=N.Ms.length)(B:w.ownsMap prog 3 Bx N.fb n D)(hI:Gh adr fs D)(hn:n<100000)(G:CG w ⟨b,0,none⟩ f)(M:∀g∈U,adr' g=adr g)(hf:adr' f=⟨b,0,none⟩)(hA:Bm adr' (U++[f]))(aA:f ∉ U)(ak:∀g∈fs,g.tag≠f.tag)(aJ:(Lit.int .i64 f.tag).wf=true)(hl:fs.length<900) :
  Ca 98 #[Pn N.nw,Pn b] w λe w'=>e=.returned (.tuple #[])/\(∃l,DV N adr' (U++[f]) (fs++[f]) l w'/\Ch N adr' (U++[f]) (N.vw l (fs++[f])) (λ_=>gV (N.vw l (fs++[f]))) a w'/\∃D',w'.ownsMap prog 3 Bx N.fb (n+1) D'/\Gh adr' (fs++[f]) D')/\DB N w w':=by
 obtain⟨HN,HA,az,HO,W,H⟩:=Hl p M hf ho hF (hF.bO hA aA hl);have aE:=hI.put B.isMap (λg hg=>M g (hF.sub g hg)) hf ak;have HI:=Aa aE;obtain⟨w1,aN,aB,T⟩:=(B.drew).update GI (t:=156) underlying156 qm (keyOf_int_mk underlying3 aJ) (fW b);have O:CK w w1:=CK.az (w:=w.drew) T (kz B.drew);have Y:Av (λg=>g=N.fb) w w1:=(Av.ab (Yw _ w).drew).j (Av.az T);obtain⟨r,M1,T1,F1,O1⟩:=DU (h.ck O Y.rest.size) (hM.keep O Y (λm d x hx e=>p.co m d (e▸hx))) (G.ck O) (DB.aS (N:=N) p O Y (λg e=>.inl e)) aB;have c1:=AF (L:=[_,_,_]) h.box (j:=1) rfl;obtain⟨b',o',y,t0,_⟩:=G.at_;injection y with y;injection y with y;injection y with e1 e2;subst e1;subst e2;have c0:=AF (L:=[_,_,_]) r.o.box (j:=0) rfl;have c2:=AF (L:=[_,_,_]) r.o.box (j:=2) rfl;have v:=p.len;have aM:=p.cg;have aQ:=hF.few;have aF:=Aa (zU N.base N.gb N.mb N.la N.lc N.L N.bs V (Eg adr fs) (Pn b) f w1 ⟨b,0,none⟩ rfl T1.o r.o.nf r.o.hb v (by rw[MH];omega) p.cf);clear h hF hM ho B hI aE G M hf p aB T O Y aA ak hA;go_enter func98,ntmps98;go_wp2_with fail;go_region;go_wp2_with fail;refine aF.o.an λK⟨⟨l,aI⟩,z⟩=>?_;have I:=Aa (r.o.bO (adr':=adr') (f:=f) z (by rw[az.o];exact aI) HA.o W.o.sub (by rw[az.o];exact T1.o));have M2:=Aa (M1.o.bm HN.o r.o W.o I.o H.o HA.o z);have F2:=Aa (F1.o.j (DB.cV z));have O2:=Aa (show K.ownsMap prog 3 Bx N.fb (n+1) _ from by
  obtain⟨es,cl,hb⟩:=IK O1.o;exact Ii O1.o ((z.maps _ _ hb (λ_ _ _ q=>Np)).j hb.ai))
 have aO:=AF (L:=[_,_,_]) I.o.box (j:=2) rfl;obtain⟨A,Z⟩:∃A,A=N.ma:=⟨_,rfl⟩
 rw[<-Z]at aO;have aL:=Aa Z;clear Z;clear aI z aF c0 c1 c2 t0;go_wp2_with fail
 go_loopw [26] (λiv wr=>∃k:Nat,iv=I6 (k:Int)/\k<=N.Ms.length/\Ch N adr' (U++[f]) (N.vw l (fs++[f])) (λi=>if i<k then gV (N.vw l (fs++[f])) else gV (N.vw V fs)) a wr/\CK K wr/\Av (λg=>∃m∈N.Ms,m.S g) K wr) (mz N.Ms.length)
 case atStart=>exact⟨0,rfl,yA _,λi m old h1 h2=>by simpa using M2.o i m old h1 h2,λ_ _ _ _ h=>h,Av.refl _ _⟩
 case round=>
  obtain⟨k,rfl,aP,aD,E,am⟩:=hrel;obtain⟨MR,CR,PR,J⟩:=BE aD E am (I.o.ck E am.rest.size);clear aD E am;by_cases hk:k<N.Ms.length
  .obtain⟨m,d⟩:=AJ hk;obtain⟨old,C⟩:∃o,a[k]?=some o:=⟨a[k]'(by rw[HO.o];exact hk),qe⟩
   have s:=yd d;obtain⟨rb,aC,_,r0,_⟩:=CC J.o.row (show(N.Ms.map MK.val)[k]?=some m.val by rw[yx,d];rfl);obtain⟨p1,p2,p3⟩:=J.o.pre H.o s;obtain⟨o1,o2,o3⟩:=r.o.pre W.o s;have HS:=Aa (uV m (HN.o.ok m s) adr' (U++[f]) H.o.inj (N.vw l (fs++[f])) p3 (gV (N.vw V fs)) (o3.more (λg hg=>by simp[hg])) old f qe wr (by simpa using MR.o k m old d C) p1 (λc hc=>by rw[p2 c hc,o2 c hc];exact vZ));rw[az.o]at HS;obtain⟨aH,HX,aG⟩:=AQ s d C;have z0:(0:Int)<=(k:Int):=qd;have z1:(k:Int)<(N.Ms.length:Int):=qd;have aK:=aL.o.j aC;subst aK;clear d C s p1 p2 p3 o1 o2 o3 aC;cases m with
   |inl Rc=>
    obtain⟨R,c⟩:=Rc;simp only[MK.val,MK.cS,MK.ptr]at HS r0;have q1:=λu=>ug R.rb u;exact og
   |inr t=>
    simp only[MK.val,MK.cS,MK.ptr]at HS r0;have q1:=λu=>vp t.mb u;exact og
  obtain rfl:k=N.Ms.length:=qd;have hy:¬(N.Ms.length:Int)<(N.Ms.length:Int):=qd;go_wp2_with fail;go_end0;refine⟨rfl,⟨l,J.o,λi m old h1 h2=>?_,_,Ii O2.o (PR.o.block _ O2.o.lt ?_),HI.o⟩,F2.o.j (DB.aS HN.o CR.o PR.o (λg hg=>.inr hg))⟩
  .exact mh
  rintro⟨m,d,hs⟩;exact HN.o.co m d hs
def lH{w w':World}{k b r n D left cnt}(h:w.ranges prog k Bx b r n D left cnt)(m:w'.heap[b]?=w.heap[b]?)(f:w'.heap[r]?=w.heap[r]?):w'.ranges prog k Bx b r n D left cnt:=by
 obtain⟨es,a,since,seen,g,o,d,c,e,i,l⟩:=h;exact⟨es,a,since,seen,g,m.j o,d,c,e,f.j i,l⟩
def jx{w:World}{k b r n D left cnt}(h:w.ranges prog k Bx b r n D left cnt):∃m s e c,w.heap[r]?=some (.mapIter m s e c):=by
 obtain⟨es,a,since,seen,j,o,g,f,i,d,l⟩:=h;exact⟨_,_,_,_,d⟩
def od{P:Prop}(h:P:=by
 go_wp2_with fail;refine HS.o.an λw3⟨aj,Y,O⟩=>?_;obtain⟨aD,az,aw⟩:=AQ (MR.o.next HN.o HX.o aL.o aj Y O) (CR.o.j Y) (PR.o.j (O.ac λg hg=>⟨_,aM.o,hg⟩));clear aj Y O HS r0;go_wp2_with fail;go_roundw
 case rel=>exact⟨k+1,by go_num,by omega,aD.o,az.o,aw.o⟩
 case measure=>(simp;omega)
 ):P:=h
def vH(N)(v:FH N)(adr U fs V a r n cnt left D f b w)(h:DV N adr U fs V w)(hF:Gi adr U fs)(hM:Ch N adr U (N.vw V fs) (λ_=>gV (N.vw V fs)) a w)(ho:a.length=N.Ms.length)(hD:w.ranges prog 3 Bx N.fb r n D left cnt)(aI:∀m∈N.Ms,¬m.S r)(hI:Gh adr fs D)(J:f∈fs)(T:adr f=⟨b,0,none⟩)(ar:∀g∈fs,∀k∈fs,g.tag=k.tag->g=k)(aP:(Lit.int .i64 f.tag).wf=true) :
  Ca 97 #[.pointer (some ⟨N.nw,0,none⟩),.pointer (some ⟨b,0,none⟩)] w λe w'=>e=.returned (.tuple #[])/\(∃s,DV N adr U (fs.filter λg=>!decide (adr g=adr f)) s w'/\Ch N adr U (N.vw s (fs.filter λg=>!decide (adr g=adr f))) (λ_=>gV (N.vw s (fs.filter λg=>!decide (adr g=adr f)))) a w'/\∃M,w'.ranges prog 3 Bx N.fb r n (D.del (.int .i64 f.tag)) (λz=>left z&&!z.sameKey (.int .i64 f.tag)) M/\M<=cnt/\Gh adr (fs.filter λg=>!decide (adr g=adr f)) (D.del (.int .i64 f.tag)))/\DB N w w':=by
 obtain⟨G,C⟩:∃G,G=fs.filter λg=>!decide (adr g=adr f):=⟨_,rfl⟩
 rw[<-C];obtain⟨HG,aR,HN,HO,B,aV,aJ,K⟩:=NG C T v ho hF aI J (hF.gone (p:=λg=>!decide (adr g=adr f)));rw[<-C]at K;have aB:=hI.del hF.inj hF.sub J ar;rw[<-C]at aB;have aG:w.drew.ranges prog 3 Bx N.fb r n D left cnt:=hD;obtain⟨W,M,ak,aF,aN,aE⟩:=aG.drop GI (t:=156) underlying156 (keyOf_int_mk underlying3 aP) 0;have ax:=aE.grown;have HC:=Aa (And.intro aN aB);have aW:∀ty,(Builtin.delete_ #[156,3] ty #[.map (some N.fb),.int .i64 f.tag]).run prog w.drew=.ok (.tuple #[]) W:=λ_=>ak;have Y:CK w W:=CK.az (w:=w.drew) ax (kz hD.owns);have O:Av (λg=>g=N.fb) w W:=(Av.ab (Yw _ w).drew).j (Av.az ax);obtain⟨l,M1,F1,O1⟩:=BE (h.ck Y O.rest.size) (hM.keep Y O (λm d x hx e=>v.co m d (e▸hx))) (DB.aS (N:=N) v Y O (λg e=>.inl e)) aF;have c1:=AF (L:=[_,_,_]) h.box (j:=1) rfl;have Z:=h.us f (hF.sub f J);rw[T]at Z;obtain⟨b',o',H,t0,_⟩:=Z.at_;injection H with H;injection H with H;injection H with e1 e2;subst e1;subst e2;have c0:=AF (L:=[_,_,_]) l.o.box (j:=0) rfl;have c2:=AF (L:=[_,_,_]) l.o.box (j:=2) rfl;have E:=v.len;have aT:=v.cg;have aC:=Aa (ub N.base N.gb N.mb N.la N.lc N.L N.bs V adr fs (adr f) W (λg hg=>(l.o.us g (hF.sub g hg)).pt) (l.o.us f (hF.sub f J)).pt l.o.nf l.o.hb E);rw[<-C,T]at aC;clear h hF hM ho hD aG hI aB Z v aF ax Y O ar aI J aE aN ak C T;go_enter func97,ntmps97;go_wp2_with fail;go_region;go_wp2_with fail;refine aC.o.an λw2⟨⟨s,aO⟩,y⟩=>?_;have H2:=Aa (l.o.gone y aO);have M2:=Aa (M1.o.bm HN.o l.o B.o H2.o K.o (λ_ _=>rfl) y);have F2:=Aa (F1.o.j (DB.cV y));have O2:=Aa (show w2.ranges prog 3 Bx N.fb r n (D.del (.int .i64 f.tag)) (λz=>left z&&!z.sameKey (.int .i64 f.tag)) M from by
  obtain⟨es,cl,hb⟩:=IK O1.o.owns;obtain⟨_,_,_,_,hr⟩:=jx O1.o;exact lH O1.o ((y.maps _ _ hb (λ_ _ _ q=>Np)).j hb.ai) ((y.maps _ _ hr (λ_ _ _ q=>Np)).j hr.ai))
 have aU:=AF (L:=[_,_,_]) H2.o.box (j:=2) rfl;obtain⟨A,ay⟩:∃A,A=N.ma:=⟨_,rfl⟩
 rw[<-ay]at aU;have aS:=Aa ay;clear ay;clear aO y aC c0 c1 c2 t0;go_wp2_with fail
 go_loopw [25] (λiv wr=>∃k:Nat,iv=.int .i64 (k:Int)/\k<=N.Ms.length/\Ch N adr U (N.vw s G) (λi=>if i<k then gV (N.vw s G) else gV (N.vw V fs)) a wr/\CK w2 wr/\Av (λg=>∃m∈N.Ms,m.S g) w2 wr) (mz N.Ms.length)
 case atStart=>exact⟨0,rfl,yA _,λi m old h1 h2=>by simpa using M2.o i m old h1 h2,λ_ _ _ _ h=>h,Av.refl _ _⟩
 case round=>
  obtain⟨k,rfl,aX,aK,av,au⟩:=hrel;obtain⟨MR,CR,PR,HR⟩:=BE aK av au (H2.o.ck av au.rest.size);clear aK av au;by_cases hk:k<N.Ms.length
  .obtain⟨m,d⟩:=AJ hk;obtain⟨old,am⟩:∃o,a[k]?=some o:=⟨a[k]'(by rw[HO.o];exact hk),qe⟩
   have I:=yd d;obtain⟨rb,aH,_,r0,_⟩:=CC HR.o.row (show(N.Ms.map MK.val)[k]?=some m.val by rw[yx,d];rfl);obtain⟨p1,p2,p3⟩:=HR.o.pre K.o I;obtain⟨o1,o2,o3⟩:=l.o.pre B.o I;have HS:=Aa (xM m (HN.o.ok m I) adr U K.o.inj (N.vw s G) p3 (gV (N.vw V fs)) o3 old f (B.o.sub f aJ.o) wr (by simpa using MR.o k m old d am) p1 (λc hc=>by rw[p2 c hc,o2 c hc];rw[HG.o];exact vg B.o.inj B.o.sub B.o.nd aJ.o));rw[aR.o]at HS;obtain⟨aM,HX,aL⟩:=AQ I d am;have z0:(0:Int)<=(k:Int):=qd;have z1:(k:Int)<(N.Ms.length:Int):=qd;have aQ:=aS.o.j aH;subst aQ;clear d am I p1 p2 p3 o1 o2 o3 aH;cases m with
   |inl Rc=>
    obtain⟨R,c⟩:=Rc;simp only[MK.val,MK.cT,MK.ptr]at HS r0;have q1:=λu=>vD R.rb u;exact od
   |inr t=>
    simp only[MK.val,MK.cT,MK.ptr]at HS r0;have q1:=λu=>xJ t.mb u;exact od
  obtain rfl:k=N.Ms.length:=qd;have hy:¬(N.Ms.length:Int)<(N.Ms.length:Int):=qd;go_wp2_with fail;go_end0;refine⟨rfl,⟨s,HR.o,λi m old h1 h2=>?_,_,lH O2.o (PR.o.block _ O2.o.owns.lt ?_) (PR.o.block _ O2.o.lt ?_),HC.o⟩,F2.o.j (DB.aS HN.o CR.o PR.o (λg hg=>.inr hg))⟩
  .exact mh
  .rintro⟨m,d,hs⟩;exact HN.o.co m d hs
  rintro⟨m,d,hs⟩;exact aV.o m d hs
end
section
open Go.Maps
def MK.St.lt{m:MK}{adr U vw g old w}(h:m.St adr U vw g old w):∀x,m.S x->x<w.heap.size:=by
 cases m with
 |inl O=>
  obtain⟨R,c⟩:=O;obtain⟨⟨a,e,_⟩,_⟩:=h;exactλx d=>Rp e x (He.2 d)
 |inr t=>
  obtain⟨K,M,_,_,b⟩:=h.2.ex;rintro x (rfl|rfl)
  .exact b.now.lt
  exact b.news.lt
def Ch.lt{N adr U vw g a w}(h:Ch N adr U vw g a w)(d:a.length=N.Ms.length){m}(c:m∈N.Ms):∀x,m.S x->x<w.heap.size:=by
 obtain⟨i,b⟩:=YD c;have hl:=(yf.1 b).1;exact(h i m (a[i]'(by omega)) b qe).lt
def Fk(w:World)(a:Option Addr)(gs:List F):Prop:=∀(i:Nat)(f:F),gs[i]?=some f->∃b o,a=some ⟨b,o,none⟩/\CG w ⟨b,o+i*3,none⟩ f
def Fk.at_{w a gs}(h:Fk w a gs):BC w a gs:=λi f j=>by
 obtain⟨b,o,e,m⟩:=h i f j;obtain⟨p,o',O,Y,n,sa,d,k,g⟩:=m.at_;injection O with O;injection O with O;injection O with c l;subst c;subst l;exact⟨b,o,e,Y,n,sa,d,k,g⟩
def CG.fn{N w w' a f}(h:CG w a f)(e:DB N w w'):CG w' a f:=h.keep λg c t d b ht=>e.kept g c t d b qs qs
def Fk.fn{N w w' a gs}(h:Fk w a gs)(d:DB N w w'):Fk w' a gs:=λi f c=>by
 obtain⟨b,o,e,g⟩:=h i f c;exact⟨b,o,e,g.fn d⟩
def DB.ab{N w w'}(h:Bw w w'):DB N w w':=⟨h.ac (yA _),λk _ _ _ a _ _=>(h.block k (As a)).j a,λk _ a _ _ _=>(h.block k (ym.1 a).1).j a,λ_ _ b=>h.ac b⟩
def S6{w w':World}{k e b n}{D:DataW Unit}(h:w.ownsMap prog k (plainElem prog e) b n D)(d:w'.heap[b]?=w.heap[b]?):w'.ownsMap prog k (plainElem prog e) b n D:=by
 obtain⟨es,a,f,c⟩:=h;exact⟨es,a,d.j f,c⟩
def zny{w:World}{k e b n}{D:DataW Unit}(h:w.ownsMap prog k (plainElem prog e) b n D):∃es d,w.heap[b]?=some (.map es d):=by
 obtain⟨es,a,c,_⟩:=h;exact⟨es,a,c⟩
def iu{a b}:(Lit.int .i64 a).sameKey (.int .i64 b)=decide (a=b):=by
 by_cases h:a=b
 .subst h;rw[WideAt.sameKey_self (NE a)];simp
 rw[sameKey_ne (λe=>h Lu)];simp[h]
structure Lf(N:NT) (adr:F->Addr) (U fs gs:List F) (olds:List (List Kt)) (r n pb:Nat) (DP:DataW Unit) (p:F->Bool) (V:List Value) (D:DataW Unit) (left:Lit->Bool) (cnt:Nat) (wr:World):Prop where
 bx:DV N adr U (fs.filter p) V wr
 ms:Ch N adr U (N.vw V (fs.filter p)) (λ_=>gV (N.vw V (fs.filter p))) olds wr
 rg:wr.ranges prog 3 Bx N.fb r n D left cnt
 mv:Gh adr (fs.filter p) D
 no:∀f∈fs,p f=false->(AD f.tag gs).isSome=false
 cC:∀f∈fs,p f=true->left (.int .i64 f.tag)=false->(AD f.tag gs).isSome=true
 pl:wr.ownsMap prog 3 (plainElem prog 3) pb gs.length DP
def Lf.seen{N adr U fs gs a r n pb g p V D left cnt O wr w' t}(h:Lf N adr U fs gs a r n pb g p V D left cnt wr)(d:CK wr w')(c:wr.grownBy w' (some r))(i:∀m∈N.Ms,¬m.S r)(s:pb≠r)(Y:w'.ranges prog 3 Bx N.fb r n D (λz=>left z&&!z.sameKey (.int .i64 t)) O)(o:(AD t gs).isSome=true):Lf N adr U fs gs a r n pb g p V D (λz=>left z&&!z.sameKey (.int .i64 t)) O w':=by
 refine⟨h.bx.ck d c.size,h.ms.keep d (Av.az c) (λm k x j e=>i m k (e▸j)),Y,h.mv,h.no,λf l q hl=>?_,S6 h.pl (c.block pb h.pl.lt (λe=>s Lu))⟩;rw[iu]at hl;cases b:left (.int .i64 f.tag)
 .exact h.cC f l q b
 rw[b]at hl;have:f.tag=t:=Mh;rw[this];exact o
def zoO{fs:List F}{p q}:(fs.filter p).filter q=fs.filter (λg=>q g&&p g):=YB
def Lf.last{N adr U fs gs a r n pb e p V D left cnt wr}(h:Lf N adr U fs gs a r n pb e p V D left cnt wr)(hl:∀d,left d=false):fs.filter p=fs.filter (λf=>(AD f.tag gs).isSome):=Y0 λf b=>by
 cases c:p f
 .exact(h.no f b c).ai
 exact(h.cC f b c (hl _)).ai
end
section
open Go.Maps
attribute [local go_sem ↓] wp_at_zero wp_at_succ
def zx(a c fs nx cp sg w)(hv:BC w a fs)(hl:fs.length<=1048576)(d:BO 0 fs=true)(m:∀f∈fs,Cq f) :
  Ca 96 #[.agg #[.slice a fs.length c,I6 nx,I6 cp,.bool sg]] w λe w'=>
   ∃b D,e=.returned (.map (some b))/\w'.ownsMap prog 3 (plainElem prog 3) b fs.length D/\Ep fs fs.length D/\w.heap.size<=b/\Bw w w':=by
 have g:=Xt (P:=prog) (t:=172) underlying172;go_enter func96,ntmps96;go_wp2;clear g
 go_loopw [13] (λi wr=>∃(k:Nat)(D:DataW Unit),k<=fs.length/\i=I6 k/\wr.ownsMap prog 3 (plainElem prog 3) (w.heap.size+1) k D/\Ep fs k D/\Bw w wr) (mz fs.length)
 case atStart=>exact⟨0,.map [],qd,rfl,by have:=WB (H:=Unit) (w.alloc (.cells #[.slice a fs.length c,I6 nx,I6 cp,.bool sg] 27)) prog 3 (plainElem prog 3);simpa using this,Ep.start fs,Af.alloc qe _⟩
 case round=>
  obtain⟨k,D,u,rfl,hown,hI,hb⟩:=hrel;by_cases p:k<fs.length
  .obtain⟨f,O⟩:=AJ p;obtain⟨b,o,rfl,v,q,s,cs,x,l⟩:=hv.J hb k f O;have n:=(m f (yd O)).1;have aj:=hI.step hown.isMap d O;obtain⟨r,af,ah,Y⟩:=(hown.alloc (.cells #[I6 f.tag,.string f.ak,.slice s f.ad.length cs] 145)).update GI (t:=172) underlying172 qm (keyOf_int_mk underlying3 n) (plainElem_int underlying3 (rr (k:=k) qd));exact o7
  go_wp2;go_ret;obtain rfl:k=fs.length:=qd;exact⟨_,D,rfl,hown,hI,qd,hb⟩
def PC{tag}:∀{gs:List F},(AD tag gs).isSome=true↔∃g∈gs,g.tag=tag
 |[]=>by simp[AD]
 |f::r=>by
  unfold AD
  by_cases h:f.tag=tag
  .simp[h]
  rw[if_neg h]
  simp[h,PC (gs:=r)]
def kn(fs:List F)(g:F):Bool:=fs.any λf=>decide (f.tag=g.tag)
def Rm{fs g}:kn fs g=true↔∃f∈fs,f.tag=g.tag:=by simp[kn]
def stay(fs gs:List F):List F:=fs.filter λf=>(AD f.tag gs).isSome
structure Gt(N:NT) (adr:F->Addr) (U fs gs:List F) (olds:List (List Kt)) (n k:Nat) (adr':F->Addr) (ad:List F) (V:List Value) (D:DataW Unit) (wr:World):Prop where
 ag:∀g∈U,adr' g=adr g
 ae:ad=(gs.take k).filter λg=>!kn fs g
 bx:DV N adr' (U++ad) (stay fs gs++ad) V wr
 lk:Gi adr' (U++ad) (stay fs gs++ad)
 ms:Ch N adr' (U++ad) (N.vw V (stay fs gs++ad)) (λ_=>gV (N.vw V (stay fs gs++ad))) olds wr
 mp:wr.ownsMap prog 3 Bx N.fb (n+ad.length) D
 mv:Gh adr' (stay fs gs++ad) D
 bu:∀f∈stay fs gs++ad,adr' f=⟨(adr' f).block,0,none⟩
def Gt.J{N adr U fs gs a n k adr' c V D wr w'}(h:Gt N adr U fs gs a n k adr' c V D wr)(b:Bw wr w'):Gt N adr U fs gs a n k adr' c V D w':=
 ⟨h.ag,h.ae,h.bx.ck (CK.ab b) b.size,h.lk,h.ms.keep (S:=λ_=>False) (CK.ab b) (Av.ab b) (λ_ _ _ _ q=>q),Ii h.mp (b.block _ h.mp.lt),h.mv,h.bu⟩
def Gt.known{N adr U fs gs a n k adr' b V D wr f}(h:Gt N adr U fs gs a n k adr' b V D wr)(d:gs[k]?=some f)(i:BO 0 gs=true):Maps.has D (.int .i64 f.tag)=kn fs f/\(kn fs f=false->∀g∈stay fs gs++b,g.tag≠f.tag):=by
 have key:(∃g∈stay fs gs++b,g.tag=f.tag)↔∃g∈fs,g.tag=f.tag:=by
  constructor
  .rintro⟨g,O,e⟩;rcases yr.1 O with q|q
   .exact⟨g,(yg.1 q).1,e⟩
   rw[h.ae]at q;have Y:=(yg.1 q).1;have:=VG i d;have c:(AD f.tag (gs.take k)).isSome=true:=PC.2 ⟨g,Y,e⟩;rw[this]at c;cases c
  rintro⟨g,O,e⟩;exact⟨g,Wb _ (yg.2 ⟨O,PC.2 ⟨f,yd d,e.ai⟩⟩),e⟩
 refine⟨?_,λq g O e=>?_⟩
 .rw[KZ,h.mv.cA,Rm,key]
 have:=Rm.2 (key.1 ⟨g,O,e⟩);rw[q]at this;cases this
def Gt.skip{N adr U fs gs a n k adr' b V D wr f}(h:Gt N adr U fs gs a n k adr' b V D wr)(d:gs[k]?=some f)(c:kn fs f=true):Gt N adr U fs gs a n (k+1) adr' b V D wr:=
 ⟨h.ag,by rw[yY,d,yQ];simp[c,h.ae],h.bx,h.lk,h.ms,h.mp,h.mv,h.bu⟩
def xO(adr:F->Addr)(U:List F)(f b)(d:f ∉ U):∃adr':F->Addr,(∀g∈U,adr' g=adr g)/\adr' f=⟨b,0,none⟩:=by
 classical
 refine⟨λg=>if g=f then⟨b,0,none⟩ else adr g,λg c=>?_,qe⟩;have a:g≠f:=λe=>d (e▸c);simp[a]
def vf{adr adr' U f b}(h:Bm adr U)(O:∀g∈U,adr' g=adr g)(c:adr' f=⟨b,0,none⟩)(a:∀g∈U,(adr g).block≠b):Bm adr' (U++[f]):=λg i k d e=>by
 rcases yr.1 i with q|q
 .rcases yr.1 d with q'|q'
  .rw[O g q,O k q']at e;exact h g q k q' e
  rw[yv.1 q',O g q,c]at e;exact absurd H4 (a g q)
 rcases yr.1 d with q'|q'
 .rw[yv.1 q,O k q',c]at e;exact absurd (by rw[<-e]) (a k q')
 rw[yv.1 q,yv.1 q']
def zFp(w):(zeroValue 106).run prog w=.ok (.pointer none) w:=qf
def DB.iter{N w wr Y r}(h:DB N w wr)(a:wr.grownBy Y (some r))(p:w.heap.size<=r):DB N w Y:=by
 have key:∀k o,w.heap[k]?=some o->wr.heap[k]?=some o->Y.heap[k]?=some o:=λk o g f=>by
  have d:k<w.heap.size:=(ym.1 g).1;exact(a.block k (ym.1 f).1 (λe=>Zd)).j f
 exact⟨⟨a.os.j h.rest.os,a.tape.j h.rest.tape,a.output.j h.rest.output,yi h.rest.size a.size,λ_ q=>absurd q qd⟩,λk c t l d g f=>key k _ d (h.kept k c t l d g f),λk o d g f i=>key k o d (h.maps k o d g f i),λb n m=>⟨a.os.j h.rest.os,a.tape.j h.rest.tape,a.output.j h.rest.output,yi h.rest.size a.size,λk O=>(a.block k (by have:=h.rest.size;omega) (λe=>Zd)).j ((h.low b n m).block k O)⟩⟩
def Lf.gone{N adr U fs gs a r n pb i p V d D left cnt O wr o c f}(h:Lf N adr U fs gs a r n pb i p V D left cnt wr)(hF:Gi adr U fs)(x:∀f∈fs,∀g∈fs,f.tag=g.tag->f=g)(s:f∈fs)(y:(AD f.tag gs).isSome=false)(l:DV N adr U ((fs.filter p).filter λg=>!decide (adr g=adr f)) d c)(k:Ch N adr U (N.vw d ((fs.filter p).filter λg=>!decide (adr g=adr f))) (λ_=>gV (N.vw d ((fs.filter p).filter λg=>!decide (adr g=adr f)))) a c)(w:c.ranges prog 3 Bx N.fb r n (D.del (.int .i64 f.tag)) (λz=>(left z&&!z.sameKey (.int .i64 f.tag))&&!z.sameKey (.int .i64 f.tag)) O)(u:Gh adr ((fs.filter p).filter λg=>!decide (adr g=adr f)) (D.del (.int .i64 f.tag)))(t:o.ownsMap prog 3 (plainElem prog 3) pb gs.length i)(B:DB N o c)(E:pb≠N.fb)(A:∀m∈N.Ms,¬m.S pb):∃Y,Lf N adr U fs gs a r n pb i (λg=>!decide (adr g=adr f)&&p g) d (D.del (.int .i64 f.tag)) Y O c:=by
 rw[zoO]at l k u;refine⟨_,l,k,w,u,λg b q=>?_,λg b q hl=>?_,?_⟩
 .by_cases e:adr g=adr f
  .rw[hF.inj g (hF.sub g b) f (hF.sub f s) e];exact y
  exact h.no g b (by simpa[e] using q)
 .have e:adr g≠adr f:=λe=>by simp[e]at q
  have G:p g=true:=by simpa[e] using q
  have C:g.tag≠f.tag:=λq'=>e (by rw[x g b f s q']);refine h.cC g b G ?_;rw[iu]at hl;simpa[C] using hl
 obtain⟨es,H,v⟩:=zny t;exact S6 t ((B.maps _ _ v (λ_ _ _ q=>Np) E A).j v.ai)
def CG.copy{w g a f sa b}(h:CG w a f)(p:At w a.block (a.off+2) (.slice sa f.ad.length b))(q:Bj w sa f.ad)(k:Bw w g)(i:g.heap[w.heap.size]?=some (.cells #[I6 f.tag,.string f.ak,.slice sa f.ad.length b] 145 (0,0))):CG g ⟨w.heap.size,0,none⟩ f:=by
 obtain⟨u,o,l⟩:=C7 i rfl;refine⟨⟨w.heap.size,0,rfl,u,o,sa,b,l,q.J k⟩,λz O=>?_,λA n y v m r e c=>?_⟩
 .injection O with O;subst O;exact⟨_,i⟩
 have d:=l.ai.j v;injection d with d;injection d with s _ _;subst s;obtain⟨x,t,Y⟩:=h.sl sa _ b p m r e c;exact⟨x,t,(k.block m (As Y)).j Y⟩
def Gt.more{N adr U fs gs c n k b adr' O a V i D l wr e f}(h:Gt N adr U fs gs c n k adr' a V D wr)(u:gs[k]?=some f)(s:kn fs f=false)(p:∀g∈U++a,O g=adr' g)(v:O f=⟨b,0,none⟩)(Y:Gi O ((U++a)++[f]) ((stay fs gs++a)++[f]))(o:DV N O ((U++a)++[f]) ((stay fs gs++a)++[f]) i e)(m:Ch N O ((U++a)++[f]) (N.vw i ((stay fs gs++a)++[f])) (λ_=>gV (N.vw i ((stay fs gs++a)++[f]))) c e)(t:e.ownsMap prog 3 Bx N.fb (n+a.length+1) l)(r:Gh O ((stay fs gs++a)++[f]) l):Gt N adr U fs gs c n (k+1) O (a++[f]) i l e:=by
 rw[Yc]at Y o m r;rw[Yc]at Y o m;refine⟨λg d=>(p g (Wb _ d)).j (h.ag g d),by rw[yY,u,yQ];simp[s,h.ae],o,Y,m,by rw[yR];exact t,r,λg d=>?_⟩;rw[<-Yc]at d;rcases yr.1 d with q|q
 .rw[p g (h.lk.sub g q)];exact h.bu g q
 rw[yv.1 q,v]
def wN(N)(hN:FH N)(adr U fs gs V d n D a c w)(h:DV N adr U fs V w)(hF:Gi adr U fs)(hM:Ch N adr U (N.vw V fs) (λ_=>gV (N.vw V fs)) d w)(ho:d.length=N.Ms.length)(hD:w.ownsMap prog 3 Bx N.fb n D)(hI:Gh adr fs D)(hn:n+gs.length<100000)(bd:Fk w a gs)(C:BO 0 gs=true)(hr:∀f∈gs,Cq f)(cq:gs.length<=100)(co:fs.length<=100)(bo:∀f∈fs,(Lit.int .i64 f.tag).wf=true)(aW:∀f∈fs,∀g∈fs,f.tag=g.tag->f=g)(aS:∀g∈gs,kn fs g=false->g ∉ U)(bh:∀f∈fs,adr f=⟨(adr f).block,0,none⟩) :
  Ca 46 #[.pointer (some ⟨N.nw,0,none⟩),.slice a gs.length c] w λe w'=>e=.returned (.tuple #[])/\(∃adr' l M G,Gt N adr U fs gs d n gs.length adr' l M G w')/\DB N w w':=by
 obtain⟨HN,HF,HO,HH,HM,HD,HI,bN,HG⟩:=Ja hN hF ho h hM hD hI bd C;obtain⟨HR,cn,bf,bQ,bA,bi⟩:=Hl hr bo aW aS bh (zx a c gs 0 0 false w bd.at_ qd C hr);clear h hF hM ho hD hI bd C hr bo aW aS bh hN;go_enter func46,ntmps46;go_wp2_with fail;refine bi.o.ac ?_;rintro e E ⟨pb,DP,rfl,aI,bC,cd,u⟩;obtain⟨b5,bR,b7,H1,M1⟩:=DU aI bC u (HH.o.ck (CK.ab u) u.size) (HM.o.keep (S:=λ_=>False) (CK.ab u) (Av.ab u) (λ_ _ _ _ q=>q));have bB:=Ii HD.o (u.block _ HD.o.lt);have bY:=HD.o.lt;have aa:=u.size;have c1:=AF (L:=[_,_,_]) H1.o.box (j:=1) rfl;obtain⟨w2,bL,aT,Y,bX⟩:=bB.range GI (t:=156) underlying156;have A:Bw E w2:=⟨Y.os,Y.tape,Y.output,Y.size,λk hk=>Y.block k hk qe⟩
 have cf:=Aa A;have bt:=aI.lt;have L2:=Aa (show Lf N adr U fs gs d E.heap.size n pb DP (λ_=>true) V D (Maps.has D) (Maps.size D) w2 from by
  have e:fs.filter (λ_=>true)=fs:=Yv.2 (λ_ _=>rfl);have bp:=(CK.ab A)
  refine⟨by rw[e];exact H1.o.ck bp A.size,by rw[e];exact M1.o.keep (S:=λ_=>False) bp (Av.ab A) (λ_ _ _ _ q=>q),aT,by rw[e];exact HI.o,λf _ q=>Np,λf hf _ q=>?_,S6 aI (A.block _ bt)⟩;rw[(HI.o.cA f.tag).2 ⟨f,hf,rfl⟩]at q;cases q)
 have F2:=Aa ((DB.ab (N:=N) u).j (DB.ab A));have a9:Hid (∀m∈N.Ms,¬m.S E.heap.size):=λm hm q=>by
  have:=HM.o.lt HO.o hm _ q;omega
 have bS:Hid (∀m∈N.Ms,¬m.S pb):=λm hm q=>by
  have:=HM.o.lt HO.o hm _ q;omega
 clear aI bC u A aT Y bi bB;go_wp2_with fail
 go_loopw [] (λwr=>∃p M G left cnt,Lf N adr U fs gs d E.heap.size n pb DP p M G left cnt wr/\DB N w wr) (λwr=>wr.rangeLeft N.fb E.heap.size)
 case atStart=>exact⟨_,_,_,_,_,L2.o,F2.o⟩
 case round=>
  obtain⟨p,M,G,left,cnt,i,aD⟩:=hrel;obtain⟨LR,FR⟩:=Ak i aD;have cu:=aD.rest.size;have bc:=i.rg.left_eq;rcases i.rg.next GI 0 with⟨h0,bj,a8⟩|⟨key,v,kl,y,B,bz,aE,bk,hv,aP,a8,H,ag,O,b4,hE⟩
  .have T:fs.filter p=stay fs gs:=i.last bj;have G0:=Aa (show Gt N adr U fs gs d n 0 adr [] M G wr from⟨λ_ _=>rfl,rfl,by rw[yM,yM,<-T];exact i.bx,by rw[yM,yM];exact HF.o.gone,by rw[yM,yM,<-T];exact i.ms,i.rg.owns,by rw[yM,<-T];exact i.mv,λf hf=>bA.o f (by rw[yM]at hf;exact(yg.1 hf).1)⟩);clear i aD T LR bj bc;go_wp2_with fail
   go_loopw [39] (λiv wq=>∃(k:Nat)(adr':F->Addr)(l:List F)(aZ:List Value)(aY:DataW Unit),iv=.int .i64 (k:Int)/\k<=gs.length/\Gt N adr U fs gs d n k adr' l aZ aY wq/\DB N w wq) (λiv _=>gs.length-(intOf iv).toNat)
   case atStart=>exact⟨0,_,_,_,_,rfl,yA _,G0.o,FR.o⟩
   case round=>
    obtain⟨k,adr',l,aZ,aY,rfl,ci,bu,bw⟩:=hrel;obtain⟨GQ,FQ⟩:=Ak bu bw;clear bu bw;by_cases hk:k<gs.length
    .obtain⟨f,aN⟩:=AJ hk;obtain⟨b0,o0,rfl,a6⟩:=(bN.o.fn FQ.o) k f aN;obtain⟨b',o',eb,c0,bv,sa,sc,c2,W⟩:=a6.at_;injection eb with eb;injection eb with eb;injection eb with e1 e2;subst e1;subst e2;obtain⟨bF,bM,bJ,aL⟩:=BE a6 W c2 aN;have ay:=(HR.o f (yd aN)).1;have z0:(0:Int)<=(k:Int):=qd;have z1:(k:Int)<(gs.length:Int):=qd;clear a6 W aN;go_upto_region 10 with fail;refine Bt ?_;intro B aB aQ;obtain⟨T3,G3,F3⟩:=AQ (bF.o.copy bJ.o bM.o aB aQ) (GQ.o.J aB) (FQ.o.j (DB.ab aB));obtain⟨s0,_,_⟩:=C7 aQ rfl;have d1:=AF (L:=[_,_,_]) G3.o.bx.box (j:=1) rfl;obtain⟨av,ak⟩:=G3.o.known aL.o HG.o;obtain⟨v,ps,aw,_⟩:=(G3.o.mp.drew).look_ok GI (t:=156) underlying156 (zFp B.drew) (show Bx (.pointer none)=some (.lit (.bool false),[]) from rfl) (keyOf_int_mk underlying3 ay);rw[av]at aw;have Z:Bw B B.drew:=Aj.drew;obtain⟨r,T4,F4⟩:=AQ (G3.o.J Z) (T3.o.J Z) (F3.o.j (DB.ab Z));obtain⟨b,z⟩:∃b,b=wr.heap.size:=⟨_,rfl⟩
     obtain⟨cj,cm⟩:=Ak z ak;cases s:kn fs f
     .have bH:=Aa s;rw[s]at aw;have aK:f ∉ U++l:=λq=>by
       rcases yr.1 q with q|q
       .exact bQ.o f (yd aL.o) s q
       exact ak s f (YA _ q) rfl
      obtain⟨bg,aJ,aO⟩:=xO adr' (U++l) f wr.heap.size aK;have a4:=vf r.o.lk.inj aJ aO (λg C e=>by
       obtain⟨c',bP⟩:=(GQ.o.bx.us g C).pt _ rfl;have:=As bP;omega)
      have T:(stay fs gs).length<=fs.length:=Yd _ _;have cr:l.length<=gs.length:=by rw[GQ.o.ae];exact yi (Yd _ _) qg
      have a0:(stay fs gs++l).length<900:=by rw[yR];omega
      obtain⟨bn,HLK,bV,bG⟩:=BE (vL N HN.o adr' bg (U++l) (stay fs gs++l) aZ d (n+l.length) aY f wr.heap.size B.drew r.o.bx r.o.lk r.o.ms HO.o r.o.mp r.o.mv qd T4.o aJ aO a4 aK (ak s) ay a0) (r.o.lk.bO a4 aK a0) aJ aO;clear aB aQ av ak Z z s aK aJ aO a4 a0 c0 bv c2;go_region;go_wp2_with fail;refine bn.o.an λw5⟨⟨V5,aF,aG,D5,bl,aH⟩,aU⟩=>?_;obtain⟨G5,F5⟩:=Ak (r.o.more aL.o bH.o bV.o bG.o HLK.o aF aG bl aH) (F4.o.j aU);clear aF aG bl aH aU bn;go_wp2_with fail;go_roundw
      case rel=>exact⟨k+1,_,_,_,_,ql,qd,G5.o,F5.o⟩
      case measure=>(simp[intOf];omega)
     have G5:=Aa (r.o.skip aL.o s);rw[s]at aw;clear aB aQ av ak Z z s c0 bv c2;go_region;go_wp2_with fail;go_roundw
     case rel=>exact⟨k+1,_,_,_,_,ql,qd,G5.o,F4.o⟩
     case measure=>(simp[intOf];omega)
    obtain rfl:k=gs.length:=qd;have hy:¬(gs.length:Int)<(gs.length:Int):=qd;go_wp2_with fail;go_end0;exact⟨rfl,⟨_,_,_,_,GQ.o⟩,FQ.o⟩
  obtain⟨t,rfl,rfl,ay⟩:=Maps.keyOf_int_inv underlying3 aE;obtain⟨f,R,bK⟩:=(i.mv.cA t).1 (has_true_of_atKey aP);subst bK;have hy:y.1=.lit (.int .i64 ((adr f).block:Int)):=(aP .nil).ai.j (i.mv.at_ f R .nil);have aX:Bx v=some (.lit (.int .i64 ((adr f).block:Int)),y.2):=by rw[hv,<-hy]
  have bW:=ik aX;subst bW;have aM:=(yg.1 R).1;obtain⟨b,z⟩:∃b,b=(adr f).block:=⟨_,rfl⟩
  have aR:adr f=⟨b,0,none⟩:=by rw[z];exact bA.o f aM
  rw[<-z]at a8 hE;obtain⟨_,_,_,_,a7⟩:=jx i.rg;have I:CK wr B:=CK.az O (λc t fr e=>by rw[a7]at e;cases e);have aV:pb≠E.heap.size:=qd;have aq:=S6 i.pl (O.block pb i.pl.lt (λe=>aV Lu));have am:=RW aq bR.o ay;obtain⟨ch,b8,ce,bU,b9,bI,cg⟩:=H5 H O I aq R aM aR;have bD:=H.left_eq;have F3:=Aa (FR.o.iter O qd);cases K:(AD f.tag gs).isSome
  .have bO:=Aa K;have bm:=i.bx.ck I O.size;have br:=i.ms.keep I (Av.az O) (λm hm x hx e=>a9.o m hm (e▸hx));have bq:=Aa (vH N HN.o adr U (fs.filter p) M d E.heap.size n bz _ G f b B bm (HF.o.gone) br HO.o H a9.o i.mv R aR (λg C k hk=>bf.o g (yg.1 C).1 k (yg.1 hk).1) ay);rw[K]at am;clear i aD aE bk hv aP H O hy aX R aM aR a7 I aq bm br K z;go_wp2_with fail;refine bq.o.an λw4⟨⟨V4,aF,aG,bZ,az,b6,aH⟩,aC⟩=>?_;have a5:=Aa (LR.o.gone HF.o bf.o bI.o bO.o aF aG az aH bU.o aC qd bS.o);have bE:=az.left_eq;have F4:=Aa (F3.o.j aC);clear aF aG az aH aC bq am a8 hE;go_wp2_with fail;go_roundw
   case rel=>
    obtain⟨bT,h4⟩:=a5.o;exact⟨_,_,_,_,_,h4,F4.o⟩
   case measure=>omega
  have a5:=Aa (i.seen I O a9.o aV H K);rw[K]at am;clear i aD aE bk hv aP H O hy aX R aM aR a7 I aq K z;go_wp2_with fail;go_roundw
  case rel=>exact⟨_,_,_,_,_,a5.o,F3.o⟩
  case measure=>omega
end
end Go.Proofs.YtikojfajahnhgaaGreat
