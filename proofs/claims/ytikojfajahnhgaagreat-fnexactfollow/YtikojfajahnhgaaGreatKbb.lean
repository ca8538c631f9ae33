import Derived.Test.YtikojfajahnhgaaGreatKar
import Derived.Test.YtikojfajahnhgaaGreatKas
set_option linter.all false
set_option maxHeartbeats 3200000
set_option maxRecDepth 100000
namespace Go.Proofs.YtikojfajahnhgaaGreat
attribute [local simp] At I6 Pn mzI
attribute [local go_sem] At I6 Pn
open Go.RowKit Go.Proofs.Tryz
section
open Go.Maps
attribute [local go_sem ↓] wp_at_zero wp_at_succ
def AD(tag:Int):List F->Option Nat
 |[]=>none
 |f::r=>if f.tag=tag then some 0 else(AD tag r).map (·+1)
def Cq(f:F):Prop:=(Lit.int .i64 f.tag).wf=true/\∀v∈f.ad,C8 v
def Xt{P:Program}{t k e:TypeId}(a:P.underlying t=some (.map k e))(n:Int)(w:World):(Instr.makeMap t (some (I6 n))).run P w=.ok (.map (some w.heap.size)) (w.alloc (.map #[] 0)):=by
 simp[Instr.makeMap,run_underlying a,asInt,asIntOf]
def jQ(tag:Int)(f:F):∀(l:List F),AD tag (l++[f])=match AD tag l with|some i=>some i|none=>if f.tag=tag then some l.length else none
 |[]=>by by_cases h:f.tag=tag<;>simp[AD,h]
 |g::r=>by
  rw[Ye,AD,AD]
  by_cases h:g.tag=tag
  .simp[h]
  rw[if_neg h,if_neg h,jQ tag f r]
  cases AD tag r with
  |some i=>rfl
  |none=>by_cases O:f.tag=tag<;>simp[O]
def VG{f:F}:∀{fs:List F}{last:Int}{k:Nat},BO last fs=true->fs[k]?=some f->AD f.tag (fs.take k)=none
 |[],_,_,_,h=>by simp at h
 |_::_,_,0,_,_=>rfl
 |g::r,last,k+1,hg,h=>by
  have O:BO g.tag r=true:=by simp only[BO,yk]at hg;exact hg.2
  have a:r[k]?=some f:=qq
  have:=iP O f (yd a)
  rw[YG,AD,if_neg qd,VG O a]
  rfl
structure Ep(fs:List F) (k:Nat) (D:DataW Unit):Prop where
 db:∀tag,AD tag (fs.take k)=none->Maps.has D (.int .i64 tag)=false
 cN:∀tag i,AD tag (fs.take k)=some i->Maps.has D (.int .i64 tag)=true/\∀z,D.atKey (.int .i64 tag) z=.lit (.int .i64 i)
def Ep.start(fs:List F):Ep fs 0 (.map []):=⟨λ_ _=>rfl,λtag i h=>by simp[AD]at h⟩
def Ep.step{fs:List F}{k:Nat}{D:DataW Unit}{f:F}(h:Ep fs k D)(g:IsMap D)(j:BO 0 fs=true)(d:fs[k]?=some f):Ep fs (k+1) (D.put (.int .i64 f.tag) (.lit (.int .i64 k))):=by
 have n:k<fs.length:=(yf.1 d).1;have Y:=VG j d;have hl:(fs.take k).length=k:=by simp;omega
 have key:∀tag,AD tag (fs.take (k+1))=if f.tag=tag then some k else AD tag (fs.take k):=by
  intro tag;rw[GC fs k f d,jQ,hl];by_cases a:f.tag=tag
  .subst a;rw[Y]
  rw[if_neg a,if_neg a];cases AD tag (fs.take k)<;>rfl
 constructor
 .intro tag b;rw[key]at b;by_cases a:f.tag=tag
  .rw[if_pos a]at b;cases b
  rw[if_neg a]at b;rw[has_put_other (λe=>a (by cases e;rfl))];exact h.db tag b
 intro tag i b;rw[key]at b;by_cases a:f.tag=tag
 .rw[if_pos a]at b;cases b;subst a;have O:WideAt.IsKeyLit (.int .i64 f.tag):=trivial;exact⟨has_put_same g O _,λz=>atKey_put_same g O _ z⟩
 rw[if_neg a]at b;obtain⟨m,l⟩:=h.cN tag i b;have c:Lit.int .i64 tag≠Lit.int .i64 f.tag:=λe=>a (by cases e;rfl);exact⟨by rw[has_put_other c];exact m,λz=>by rw[atKey_put_other c];exact l z⟩
def tO{k:Nat}(h:k<=1048576):(Lit.int .i64 (k:Int)).wf=true:=by
 exact nL
def GI:Keyed prog 3:=int_keyed underlying3
def Sz(a:Option Addr)(c:Nat)(fs:List F)(nx cp:Int)(sg:Bool)(w:World)(hv:BC w a fs)(hl:fs.length<=1048576)(d:BO 0 fs=true)(m:∀f∈fs,Cq f) :
  Ca 96 #[.agg #[.slice a fs.length c,.int .i64 nx,.int .i64 cp,.bool sg]] w λe w'=>
   ∃b D,e=.returned (.map (some b))/\w'.ownsMap prog 3 (plainElem prog 3) b fs.length D/\Ep fs fs.length D/\Bw w w':=by
 have g:=Xt (P:=prog) (t:=172) underlying172;go_enter func96,ntmps96;go_wp2;clear g
 go_loopw [13] (λi wr=>∃(k:Nat)(D:DataW Unit),k<=fs.length/\i=.int .i64 k/\wr.ownsMap prog 3 (plainElem prog 3) (w.heap.size+1) k D/\Ep fs k D/\Bw w wr) (mz fs.length)
 case atStart=>exact⟨0,.map [],qd,rfl,by have:=WB (H:=Unit) (w.alloc (.cells #[.slice a fs.length c,.int .i64 nx,.int .i64 cp,.bool sg] 27)) prog 3 (plainElem prog 3);simpa using this,Ep.start fs,Af.alloc qe _⟩
 case round=>
  obtain⟨k,D,u,rfl,hown,hI,hb⟩:=hrel;by_cases p:k<fs.length
  .obtain⟨f,O⟩:=AJ p;obtain⟨b,o,rfl,v,q,s,cs,x,l⟩:=hv.J hb k f O;have n:=(m f (yd O)).1;have aj:=hI.step hown.isMap d O;obtain⟨r,af,ah,Y⟩:=(hown.alloc (.cells #[.int .i64 f.tag,.string f.ak,.slice s f.ad.length cs] 145)).update GI (t:=172) underlying172 qm (keyOf_int_mk underlying3 n) (plainElem_int underlying3 (tO (k:=k) qd));exact o7
  go_wp2;go_ret;obtain rfl:k=fs.length:=qd;exact⟨_,D,rfl,hown,hI,hb⟩
def LN(w:World):(zeroValue 3).run prog w=.ok (I6 0) w:=qf
def QW:Option Nat->Int
 |some i=>i
 |none=>0
def RW{fs:List F}{w:World}{b:Nat}{D:DataW Unit}(h:w.ownsMap prog 3 (plainElem prog 3) b fs.length D)(g:Ep fs fs.length D){tag:Int}(k:(Lit.int .i64 tag).wf=true) :
  (Instr.lookup 172 (.map (some b)) (.int .i64 tag) true).run prog w=.ok (.tuple #[.int .i64 (QW (AD tag fs)),.bool (AD tag fs).isSome]) w:=by
 obtain⟨v,l,O,hv⟩:=h.look_ok GI (t:=172) underlying172 (LN w) (plainElem_int underlying3 qh) (keyOf_int_mk underlying3 k);obtain⟨c,rfl,a,_⟩:=plainElem_int_inv underlying3 hv;simp only[YW]at a;have j:fs.take fs.length=fs:=yu AA;rw[O];cases f:AD tag fs with
 |none=>
  have d:=g.db tag (by rw[j];exact f);have e:=atKey_of_not_has d (.lit (.int .i64 0));rw[e]at a;rw[d];have:=a.1;cases this;rfl
 |some i=>
  obtain⟨d,e⟩:=g.cN tag i (by rw[j];exact f);rw[e]at a;rw[d];have:=a.1;cases this;rfl
end
section
attribute [local go_sem ↓] wp_at_zero wp_at_succ
def AF{w:World}{b t}{L:List Value}{j v}(h:w.heap[b]?=some (.cells L.toArray t (0,0)))(hj:L[j]?=some v):At w b j v:=by
 simp[World.cell?,h];simpa using hj
def tys:TJ prog 111 106 145:=⟨qf,qf,λ_=>qf,⟨3,qh,λ_=>qf⟩⟩
def IH:prog.underlying 261=some (.map 111 3):=qf
def EJ:prog.underlying 260=some (.map 111 308):=qf
def Ar(x:Kt)(M:List (Kt × Int)):Int:=((M.find? (λy=>decide (y.1=x))).map Prod.snd).getD 0
def iv(M:List (Kt × Int)):List (Kt × Value):=M.map (λy=>(y.1,.int .i64 y.2))
def MA(x):∀M:List (Kt × Int),(Ce x (iv M)).getD (I6 0)=I6 (Ar x M)
 |[]=>rfl
 |y::r=>by
  have O:=MA x r
  unfold Ce Ar iv at *
  by_cases h:y.1=x
  .simp[h]
  simpa[h] using O
def RJ(x v L):Ce x (BD x v L)=some v:=by
 unfold BD;split
 .rename_i h;unfold Ce at h⊢
  induction L with
  |nil=>simp at h
  |cons y r Y=>
   by_cases hy:y.1=x
   .simp[hy]
   simp only[yn,if_neg hy];rw[Wv QA];rw[Wv QA]at h;exact Y h
 rename_i h;have O:Ce x L=none:=qq;unfold Ce at O⊢;rw[List.find?_append,Option.map_eq_none_iff.1 O];simp
def sL(x u v L):BD x u (BD x v L)=BD x u L:=by
 have h:(Ce x (BD x v L)).isSome=true:=by rw[RJ];rfl
 have e:BD x u (BD x v L)=(BD x v L).map (λy=>if y.1=x then(x,u) else y):=if_pos h;rw[e];unfold BD;split
 .rw[Yp];refine Yn λy _=>?_;simp only[Function.comp];split
  .simp
  rfl
 rename_i a;rw[yJ];congr 1
 .have:L.map (λy=>if y.1=x then(x,u) else y)=L.map id:=Yn λy b=>by
   rw[if_neg (λe=>a (MV.2 (yz.2 ⟨y,b,e⟩)))];rfl
  rw[this,KQ]
 simp
def DL(x:Kt)(v:Int)(M:List (Kt × Int)):List (Kt × Int):=if x∈M.map Prod.fst then M.map (λy=>if y.1=x then(x,v) else y) else M++[(x,v)]
def EL(x:Kt)(M:List (Kt × Int)):List (Kt × Int):=M.filter (λy=>decide (y.1≠x))
def E9(x:Kt)(s:Int)(M:List (Kt × Int)):List (Kt × Int):=if Ar x M+s=0 then EL x M else DL x (Ar x M+s) M
def RH(M):(iv M).map Prod.fst=M.map Prod.fst:=by
 unfold iv;rw[Yp];rfl
def Og(x v M):BD x (I6 v) (iv M)=iv (DL x v M):=by
 unfold BD DL;by_cases h:x∈M.map Prod.fst
 .rw[if_pos h,if_pos (MV.2 (by rw[RH];exact h))];unfold iv;rw[Yp,Yp];refine Yn λy _=>?_;simp only[Function.comp];split<;>rfl
 rw[if_neg h,if_neg (λO=>h (by rw[<-RH];exact MV.1 O))];unfold iv;rw[yJ];rfl
def a_(x M):Dm x (iv M)=iv (EL x M):=by
 unfold Dm EL iv;rw[Y8];rfl
def tK(x v M):EL x (DL x v M)=EL x M:=by
 unfold DL EL;split
 .rw[Y8];have:M.filter ((λy=>decide (y.1≠x))∘λy=>if y.1=x then(x,v) else y)=M.filter (λy=>decide (y.1≠x)):=Y0 λy _=>by
   simp only[Function.comp];split
   .rename_i h;simp[h]
   rfl
  rw[this];have a:(M.filter (λy=>decide (y.1≠x))).map (λy=>if y.1=x then(x,v) else y)=(M.filter (λy=>decide (y.1≠x))).map id:=Yn λy b=>by
   rw[if_neg (by simpa using(yg.1 b).2)];rfl
  rw[a,KQ]
 rw[yQ];simp
def Ag.put{w b L c}(h:Ag w b L){es a}(f:ED es.toList c)(O:(es.toList.map (·.born)).Nodup)(g:∀e∈es.toList,e.born<a)(Y:(c.map Prod.fst).Nodup)(d:∀y∈c,AK w y.1):Ag { w with heap:=w.heap.setIfInBounds b (.map es a) } b c:=by
 refine⟨⟨es,a,?_,f,O,g⟩,Y,λy i=>(d y i).aI (Bi.put _) h.nc⟩;exact Tk
def om{P:Prop}(h:P:=by refine r1 10 λK hK=>?_;go_simp;refine hK.o _ _ (by exact S2) λY=>?_;replace hHeld:=Y;clear hK K Y;(try simp only[pA,pZ,pS,pN]);refine wpAnyH_done (by kernel_rfl) ?_ _;refine Yf ?_):P:=h
def jC(cb nb wb M x s w)(hc:w.heap[cb]?=some (.cells #[.map (some nb),.map (some wb)] 263 (0,0)))(hM:Ag w wb (iv M))(hx:AK w x)(hs:-1<=s/\s<=1)(hk:-9<=Ar x M/\Ar x M<=9) :
  Ca 254 #[Pn cb,AU x,I6 s] w λe w'=>e=.returned (.tuple #[])/\Ag w' wb (iv (E9 x s M))/\Bi (some wb) w w':=by
 obtain⟨HM,HX⟩:=Ak hM hx;have E:cb<w.heap.size:=As hc;have HC:=Aa hc;obtain⟨x0,x1,m⟩:=x;clear hM hx hc;go_enter func254,ntmps254;unfold AU;go_upto_region 1 with fail;refine Bt ?_;intro d Z af;have hd:Bw w d.drew:=Z.drew;have T:At d cb 1 (.map (some wb)):=zab Z (AF (L:=[_,_]) HC.o (j:=1) rfl);have H:=AF (L:=[_,_,_]) af (j:=0) rfl;have I:=AF (L:=[_,_,_]) af (j:=1) rfl;have t2:=AF (L:=[_,_,_]) af (j:=2) rfl;have f:=HM.o.J hd;have z:=HX.o.J hd;have C:=MM tys IH (LN d.drew) f z false;rw[MA]at C;simp only[if_false,YE]at C;obtain⟨es,c,i,e,A,B,G,ar,hi,az⟩:=tz tys IH (LN d.drew) f z;rw[MA]at A B;have t:=f.put B G ar (Vn f.nd) (λy hy=>by
  rcases Uo hy with O|hy
  .rw[O];exact z
  exact f.ok y hy)
 have ay:(0:Int)<=0:=Wm 0;obtain⟨k,av⟩:∃k,k=Ar (x0,x1,m) M:=⟨_,rfl⟩
 rw[<-av]at hk C A B t;have aD:cb≠wb:=λO=>HM.o.nc _ _ (by rw[<-O];exact HC.o);have aB:w.heap.size≠wb:=λO=>by have:=HM.o.lt;omega
 obtain⟨b,N⟩:∃b:World,b={ d.drew with heap:=d.drew.heap.setIfInBounds wb (.map es c) }:=⟨_,rfl⟩
 have n:Bi (some wb) d.drew b:=by rw[N];exact Bi.put _
 have B1:b.heap[wb]?=some (.map es c):=by
  rw[N];show(d.drew.heap.setIfInBounds wb _)[wb]?=_;rw[Wk f.lt]
 rw[<-N]at A t;have R:=MM tys IH (LN b) t (z.aI n f.nc) false;rw[RJ]at R;simp only[if_false,YE,YY]at R;obtain⟨aC,hS,ao,au⟩:=uJ (P:=prog) (mt:=261) B1 B t.nd G hi az (I6 (k+s));obtain⟨g,U⟩:∃g:World,g={ b with heap:=b.heap.setIfInBounds wb (.map aC c) }:=⟨_,rfl⟩
 have D:Bi (some wb) b g:=by rw[U];exact Bi.put _
 rw[<-U]at hS;have aq:ED aC.toList (iv (DL (x0,x1,m) (k+s) M)):=by rw[<-Og,<-sL (x0,x1,m) _ (I6 k)];exact ao
 have aw:Hid (Ag g wb (iv (DL (x0,x1,m) (k+s) M))):=show Ag _ _ _ from by
  rw[U];refine t.put aq (by rw[au];exact G) (λO aF=>?_) (by rw[<-Og];exact Vn f.nd) (λy hy=>?_)
  .have:O.born∈es.toList.map (·.born):=by rw[<-au];exact yT aF
   obtain⟨aG,h1,h2⟩:=yz.1 this;rw[<-h2];exact ar aG h1
  rw[<-Og]at hy;rcases Uo hy with q|q
  .rw[q];exact z.aI n f.nc
  exact(f.ok y q).aI n f.nc
 obtain⟨aA,HO⟩:=Ak ((z.aI n f.nc).aI D t.nc) (((Bi.ab hd:Bi (some wb) w d.drew).j n).j D);have p:At b cb 1 (.map (some wb))/\At b w.heap.size 0 (.pointer x0)/\At b w.heap.size 1 (.pointer x1)/\At b w.heap.size 2 (.pointer m):=by
  have e1:=n.block cb (yh E hd.size) (λO=>aD Tx);have r:=n.block w.heap.size (As af) (λO=>aB Tx);exact⟨(y8 (w:=d.drew) e1).j T,(y8 (w:=d.drew) r).j H,(y8 (w:=d.drew) r).j I,(y8 (w:=d.drew) r).j t2⟩
 have S2:At g cb 1 (.map (some wb))/\At g w.heap.size 0 (.pointer x0)/\At g w.heap.size 1 (.pointer x1)/\At g w.heap.size 2 (.pointer m):=by
  have e1:=D.block cb (yh E (yi hd.size n.rest.size)) (λO=>aD Tx);have r:=D.block w.heap.size (yh (As af) n.rest.size) (λO=>aB Tx);exact⟨(y8 (w:=b) e1).j p.1,(y8 (w:=b) r).j p.2.1,(y8 (w:=b) r).j p.2.2.1,(y8 (w:=b) r).j p.2.2.2⟩
 have aH:IntKind.i64.wrap (k+s)=k+s:=by
  exact Nc
 simp only[AU]at C R A;simp only[goInt]at A hS;have HK:=Aa av;clear N U ay av t f z B ao aq G ar hi az au n B1 af Z hd;refine wp_region_noPanic ?_;refine wp_region_held_drew (S:=(λu=>At u cb 1 (.map (some wb))/\At u w.heap.size 0 (.pointer x0)/\At u w.heap.size 1 (.pointer x1)/\At u w.heap.size 2 (.pointer m))) qf ?_ (λhHeld=>?_)
 .exact⟨T,H,I,t2⟩
 refine sr 0 5 ?_;refine sr 6 7 ?_;refine r2 5 8 (λK hK=>?_) λK hK=>?_
 focus
  go_simp;refine hK.o _ _ (by exact⟨T,H,I,t2⟩) λY=>?_;replace hHeld:=Y;clear hK K Y;(try simp only[pA,pZ,pS,pN]);refine sr 7 8 ?_;refine r1 8 λK hK=>?_;go_simp;refine hK.o _ _ (by exact p) λY=>?_;replace hHeld:=Y;clear hK K Y;(try simp only[pA,pZ,pS,pN]);refine sr 9 10 ?_;refine r1 10 λK hK=>?_;go_simp;refine hK.o _ _ (by exact S2) λY=>?_;replace hHeld:=Y;clear hK K Y;(try simp only[pA,pZ,pS,pN]);refine wpAnyH_done (by kernel_rfl) ?_ _;refine Yf ?_
 rotate_left
 focus
  go_simp;refine hK.o _ _ (by exact p) λY=>?_;replace hHeld:=Y;clear hK K Y;(try simp only[pA,pZ,pS,pN]);refine sr 9 10 ?_;refine r1 5 λK hK=>?_;go_simp;refine hK.o _ _ (by exact p) λY=>?_;replace hHeld:=Y;clear hK K Y;(try simp only[pA,pZ,pS,pN]);refine sr 7 8 ?_;refine r1 10 λK hK=>?_;go_simp;refine hK.o _ _ (by exact S2) λY=>?_;replace hHeld:=Y;clear hK K Y;(try simp only[pA,pZ,pS,pN]);refine wpAnyH_done (by kernel_rfl) ?_ _;refine Yf ?_
 all_goals
  have q2:=S2.1;have u0:=S2.2.1;have u1:=S2.2.2.1;have u2:=S2.2.2.2;have W:Bw g g.drew:=Aj.drew;have ai:Bw g g.drew.drew:=Aj.drew.drew;have L2:=MM tys IH (LN g.drew) (aw.o.J W) (aA.o.J W) false;rw[<-Og,RJ]at L2;simp only[if_false,YE,YY,AU]at L2;clear C A R hS p S2 hHeld D T H I t2;by_cases hz:k+s=0
  .obtain⟨W3,hD,M3,O3⟩:=RC tys (ty:=0) (t2:=111) IH (aw.o.J ai) (aA.o.J ai);simp only[AU]at hD;have aE:(k+s==0)=true:=NA;go_wp2_with fail
   go_region;go_wp2_with fail;go_region;go_wp2_with fail;refine bodyPost_end (v:=.tuple #[]) (by simp[results,results254,go_sem]) rfl ⟨rfl,?_,HO.o.j ((Bi.ab ai).j O3)⟩;have e:E9 (x0,x1,m) s M=EL (x0,x1,m) (DL (x0,x1,m) (k+s) M):=by
    rw[tK];unfold E9;rw[<-HK.o,if_pos hz]
   rw[e,<-a_];exact M3
  have aE:(k+s==0)=false:=NA;go_wp2_with fail
  go_region;go_wp2_with fail;refine bodyPost_end (v:=.tuple #[]) (by simp[results,results254,go_sem]) rfl ⟨rfl,?_,HO.o.j (Bi.ab W)⟩;have e:E9 (x0,x1,m) s M=DL (x0,x1,m) (k+s) M:=by
   unfold E9;rw[<-HK.o,if_neg hz]
  rw[e];exact aw.o.J W
structure Av(S:Nat->Prop) (w w':World):Prop where
 rest:Below 0 w w'
 block:∀g,g<w.heap.size->¬S g->w'.heap[g]?=w.heap[g]?
def Av.refl(S w):Av S w w:=⟨Aj,λ_ _ _=>rfl⟩
def Av.j{S u v w}(h:Av S u v)(k:Av S v w):Av S u w:=
 ⟨h.rest.j k.rest,λg a b=>(k.block g (yh a h.rest.size) b).j (h.block g a b)⟩
def Av.ac{S R w w'}(h:Av S w w')(c:∀g,S g->R g):Av R w w':=⟨h.rest,λg a b=>h.block g a λq=>b (c g q)⟩
def Av.ab{S w w'}(h:Bw w w'):Av S w w':=⟨h.ac (yA _),λg a _=>h.block g a⟩
def Av.of{S b w w'}(h:Bi (some b) w w')(d:S b):Av S w w':=⟨h.rest,λg a c=>h.block g a λe=>c (by injection e with e;rw[<-e];exact d)⟩
def uv(T:List Kt):List (Kt × Value):=T.map (λx=>(x,.agg #[]))
def Pp(T):(uv T).map Prod.fst=T:=by
 unfold uv;rw[Yp];exact(Yn λ_ _=>rfl).j (KQ T)
def ZY{x T}(h:x ∉ T):BD x (.agg #[]) (uv T)=uv (T++[x]):=by simp_all[Ce,BD,uv,Kt]
def T5(x T):Dm x (uv T)=uv (T.filter (λy=>decide (y≠x))):=by
 unfold Dm uv;rw[Y8];rfl
structure CS(w:World) (cb nb wb:Nat) (T:List Kt) (M:List (Kt × Int)):Prop where
 q:w.heap[cb]?=some (.cells #[.map (some nb),.map (some wb)] 263 (0,0))
 now:Ag w nb (uv T)
 news:Ag w wb (iv M)
 ne:nb≠wb
def CS.J{w w' cb nb wb T M}(h:CS w cb nb wb T M)(a:Bw w w'):CS w' cb nb wb T M:=
 ⟨(a.block cb (As h.q)).j h.q,h.now.J a,h.news.J a,h.ne⟩
def CS.cn{w cb nb wb T M}(h:CS w cb nb wb T M):cb≠nb:=λe=>h.now.nc _ _ (by rw[<-e];exact h.q)
def CS.cw{w cb nb wb T M}(h:CS w cb nb wb T M):cb≠wb:=λe=>h.news.nc _ _ (by rw[<-e];exact h.q)
def C7{w w':World}{b x0 x1 a t}(h:w.heap[b]?=some (.cells #[x0,x1,a] t (0,0)))(c:w'.heap[b]?=w.heap[b]?):At w' b 0 x0/\At w' b 1 x1/\At w' b 2 a:=
 ⟨AF (L:=[x0,x1,a]) (c.j h) rfl,AF (L:=[x0,x1,a]) (c.j h) rfl,AF (L:=[x0,x1,a]) (c.j h) rfl⟩
def g_(cb nb wb T M x w)(h:CS w cb nb wb T M)(t:AK w x)(z:x ∉ T)(A:-9<=Ar x M/\Ar x M<=9) :
  Ca 210 #[Pn cb,AU x] w λe w'=>e=.returned (.tuple #[])/\CS w' cb nb wb (T++[x]) (E9 x 1 M)/\Av (λg=>g=nb∨g=wb) w w':=by
 obtain⟨m,u⟩:=Ak h t;have l:cb<w.heap.size:=As h.q;obtain⟨x0,x1,s⟩:=x;clear h t;go_enter func210,ntmps210;unfold AU;go_upto_region 1 with fail;refine Bt ?_;intro d n c;have hd:Bw w d.drew:=n.drew;have a:=m.o.J hd;have H:At d cb 0 (.map (some nb)):=AF (L:=[_,_]) a.q (j:=0) rfl;obtain⟨D,E,t2⟩:=C7 c rfl;have f:=u.o.J hd;obtain⟨p,y,i,b⟩:=UA tys EJ a.now f (.agg #[]);rw[ZY z]at i;simp only[AU]at y;have ai:w.heap.size≠nb:=λY=>by have:=m.o.now.lt;omega
 have r:=b.block w.heap.size (As c) (λY=>ai Zp);obtain⟨u0,u1,u2⟩:=C7 (w:=d.drew) c r;have O:Hid (CS p cb nb wb (T++[(x0,x1,s)]) M):=⟨(b.block cb (yh l hd.size) (λY=>a.cn Zp)).j a.q,i,a.news.aI b a.ne a.now.nc,a.ne⟩
 obtain⟨v,B⟩:=Ak (f.aI b a.now.nc) ((Av.ab hd:Av (λg=>g=nb∨g=wb) w d.drew).j (Av.of b (.inl rfl)));clear a f i b r hd n c;go_region;go_wp2_with fail;refine(jC cb nb wb M (x0,x1,s) 1 p O.o.q O.o.news v.o qd A).an λG⟨C,k⟩=>?_;go_wp2_with fail;refine bodyPost_end (results_none rfl _ _ _) rfl ⟨rfl,⟨?_,O.o.now.aI k O.o.ne.ai O.o.news.nc,C,O.o.ne⟩,B.o.j (Av.of k (.inr rfl))⟩;exact(k.block cb (As O.o.q) (λY=>O.o.cw Zp)).j O.o.q
def p8{P:Prop}(h:P:=by
 obtain⟨HS,HX⟩:=Ak h hx
 first
  |(have _:=tP)
  |(have HR:=Aa hR)
 have hcl:cb<w.heap.size:=As h.q;obtain⟨x0,x1,x2⟩:=x
 first
  | (have _:=tP
     clear h hx)
  |(clear h hx hR)
 go_enter func211,ntmps211;unfold AU;go_upto_region 1 with fail;refine Bt ?_;intro w1 ah af;have hd:Bw w w1.drew:=ah.drew;have C1:=HS.o.J hd;have q1:At w1 cb 0 (.map (some nb)):=AF (L:=[_,_]) C1.q (j:=0) rfl;obtain⟨t0,t1,t2⟩:=C7 af rfl;have X1:=HX.o.J hd
 first
  | (have _:=tP
     obtain⟨W1,hU,M1,O1⟩:=RC tys (ty:=0) (t2:=111) EJ C1.now X1)
  |(obtain⟨W1,hU,M1,O1,R1⟩:=sJ tys (ty:=0) (t2:=111) EJ C1.now X1)
 rw[T5]at M1
 first
  |(have _:=tP)
  | (have R2:=Aa (R1 r todo (HR.o.J hd))
     rw[T5]at R2)
 simp only[AU]at hU;have ai:w.heap.size≠nb:=λY=>by have:=HS.o.now.lt;omega
 have eb:=O1.block w.heap.size (As af) (λY=>ai (by injection Y with Y;exact Y.ai));obtain⟨u0,u1,u2⟩:=C7 (w:=w1.drew) af eb;have O:Hid (CS W1 cb nb wb (T.filter (λy=>decide (y≠(x0,x1,x2)))) M):=⟨(O1.block cb (yh hcl hd.size) (λY=>C1.cn (by injection Y with Y;exact Y.ai))).j C1.q,M1,C1.news.aI O1 C1.ne C1.now.nc,C1.ne⟩
 obtain⟨aj,HO⟩:=Ak (X1.aI O1 C1.now.nc) ((Av.ab hd:Av (λg=>g=nb∨g=wb) w w1.drew).j (Av.of O1 (.inl rfl)))
 first
  | (have _:=tP
     clear C1 X1 M1 O1 eb hd ah af)
  |(clear C1 X1 M1 O1 eb hd ah af R1)
 go_region;go_wp2_with fail;refine(jC cb nb wb M (x0,x1,x2) (-1) W1 O.o.q O.o.news aj.o (by omega) hk).an λw2⟨hm,ho⟩=>?_;go_wp2_with fail
 first
  | (have _:=tP
     refine bodyPost_end (results_none rfl _ _ _) rfl ⟨rfl,⟨?_,O.o.now.aI ho O.o.ne.ai O.o.news.nc,hm,O.o.ne⟩,HO.o.j (Av.of ho (.inr rfl))⟩)
  |(refine bodyPost_end (results_none rfl _ _ _) rfl ⟨rfl,⟨?_,O.o.now.aI ho O.o.ne.ai O.o.news.nc,hm,O.o.ne⟩,R2.o.aI ho (ho.ck O.o.news.aV) O.o.ne.ai (K7 hr),HO.o.j (Av.of ho (.inr rfl))⟩)
 exact(ho.block cb (As O.o.q) (λY=>O.o.cw (by injection Y with Y;exact Y.ai))).j O.o.q
 ):P:=h
def xC(cb nb wb T M x w)(h:CS w cb nb wb T M)(hx:AK w x)(hk:-9<=Ar x M/\Ar x M<=9) :
  Ca 211 #[Pn cb,AU x] w λe w'=>e=.returned (.tuple #[])/\CS w' cb nb wb (T.filter (λy=>decide (y≠x))) (E9 x (-1) M)/\Av (λg=>g=nb∨g=wb) w w':=by
 have tP:=trivial;exact p8
def FV(x:Kt)(s:Int)(T:List Kt):List Kt:=if s=1 then T++[x] else T.filter (λy=>decide (y≠x))
def wi(cb nb wb T M x s w)(h:CS w cb nb wb T M)(b:AK w x)(m:s=1∨s = -1)(a:s=1->x ∉ T)(k:-9<=Ar x M/\Ar x M<=9) :
  Ca 155 #[Pn cb,AU x,I6 s] w λe w'=>e=.returned (.tuple #[])/\CS w' cb nb wb (FV x s T) (E9 x s M)/\Av (λg=>g=nb∨g=wb) w w':=by
 obtain⟨d,i,O⟩:=AQ (λ(u:World)(hu:Bw w u)(n:x ∉ T)=>g_ cb nb wb T M x u (h.J hu) (b.J hu) n k) (λ(u:World)(hu:Bw w u)=>xC cb nb wb T M x u (h.J hu) (b.J hu) k) (λo=>Aj.alloc AA o:∀o,Bw w (w.alloc o));clear h b;rcases m with rfl|rfl
 .have Y:=a rfl;obtain⟨x0,x1,l⟩:=x;simp only[AU]at d⊢;clear a i;go_enter func155,ntmps155;go_wp2_with (first|(go_at_call 210;refine(d.o _ (O.o _) Y).an λp⟨f,c⟩=>?_)|fail);refine bodyPost_end (results_none rfl _ _ _) rfl ⟨rfl,?_,(Av.ab (O.o _)).j c⟩;rw[FV,if_pos rfl];exact f
 obtain⟨x0,x1,l⟩:=x;simp only[AU]at i⊢;clear a d;go_enter func155,ntmps155;go_wp2_with (first|(go_at_call 211;refine(i.o _ (O.o _)).an λp⟨f,c⟩=>?_)|fail);refine bodyPost_end (results_none rfl _ _ _) rfl ⟨rfl,?_,(Av.ab (O.o _)).j c⟩;rw[FV,if_neg qh];exact f
def kO(cb nb wb T M w)(h:CS w cb nb wb T M) :
  Ca 94 #[Pn cb] w λe w'=>e=.returned (.tuple #[])/\CS w' cb nb wb T []/\Av (λg=>g=nb∨g=wb) w w':=by
 have O:=Aa h;have k:At w cb 1 (.map (some wb)):=AF (L:=[_,_]) h.q (j:=1) rfl;obtain⟨a,i⟩:=zo (P:=prog) (ty:=0) IH h.news;obtain⟨Y,b⟩:∃Y:World,Y={ w with heap:=w.heap.setIfInBounds wb (.map #[] a) }:=⟨_,rfl⟩
 have c:Bi (some wb) w Y:=by rw[b];exact Bi.put _
 have f:Hid (Ag Y wb (iv [])):=⟨⟨#[],a,by rw[b];show(w.heap.setIfInBounds wb _)[wb]?=_;rw[Wk h.news.lt],rfl,qe,qe⟩,by simp[iv],by simp[iv]⟩
 rw[<-b]at i;clear b;go_enter func94,ntmps94;go_wp2_with fail;refine bodyPost_end (results_none rfl _ _ _) rfl ⟨rfl,⟨?_,O.o.now.aI c O.o.ne.ai O.o.news.nc,f.o,O.o.ne⟩,Av.of c (.inr rfl)⟩;exact(c.block cb (As O.o.q) (λd=>O.o.cw (by injection d with d;exact d.ai))).j O.o.q
def Xe(g f a T x s w)(n:At w g (f+5) (.map (some a)))(h:Ag w a (uv T))(p:AK w x)(r:s=1∨s = -1)(z:s=1->x ∉ T) :
  Ca 322 #[.pointer (some ⟨g,f,none⟩),AU x,I6 s] w λe w'=>e=.returned (.tuple #[])/\Ag w' a (uv (FV x s T))/\Bi (some a) w w':=by
 obtain⟨q,m⟩:=Ak h p;obtain⟨x0,x1,B⟩:=x;clear h p;rcases r with rfl|rfl
 .have t:=z rfl;go_enter func322,ntmps322;unfold AU;go_upto_region 1 with fail;refine Bt ?_;intro c O Y;have hd:Bw w c.drew:=O.drew;have A:At c g (f+5) (.map (some a)):=zab O n;obtain⟨v,y,t2⟩:=C7 Y rfl;obtain⟨u,i,b,d⟩:=UA tys EJ (q.o.J hd) (m.o.J hd) (.agg #[]);rw[ZY t]at b;simp only[AU]at i;obtain⟨k,l⟩:=Ak ((Bi.ab hd:Bi (some a) w c.drew).j d) b;clear b d hd O Y;go_wp2_with fail;go_region;go_wp2_with fail;refine bodyPost_end (results_none rfl _ _ _) rfl ⟨rfl,?_,k.o⟩;rw[FV,if_pos rfl];exact l.o
 go_enter func322,ntmps322;unfold AU;go_upto_region 1 with fail;refine Bt ?_;intro c O Y;have hd:Bw w c.drew:=O.drew;have A:At c g (f+5) (.map (some a)):=zab O n;obtain⟨v,y,t2⟩:=C7 Y rfl;obtain⟨u,i,b,d⟩:=RC tys (ty:=0) (t2:=111) EJ (q.o.J hd) (m.o.J hd);rw[T5]at b;simp only[AU]at i;obtain⟨k,l⟩:=Ak ((Bi.ab hd:Bi (some a) w c.drew).j d) b;clear b d hd O Y;go_wp2_with fail;go_region;go_wp2_with fail;refine bodyPost_end (results_none rfl _ _ _) rfl ⟨rfl,?_,k.o⟩;rw[FV,if_neg qh];exact l.o
def Gw(x:Kt)(k:Int)(M:List (Kt × Int)):List (Kt × Int):=if k=0 then EL x M else DL x k M
def RR(nb a M x k w)(m:At w nb 7 (.map (some a)))(h:Ag w a (iv M))(n:AK w x) :
  Ca 321 #[Pn nb,AU x,I6 k] w λe w'=>e=.returned (.tuple #[])/\Ag w' a (iv (Gw x k M))/\Bi (some a) w w':=by
 obtain⟨p,l⟩:=Ak h n;obtain⟨x0,x1,v⟩:=x;clear h n;by_cases hk:k=0
 .have q:(k==0)=true:=QD;go_enter func321,ntmps321;unfold AU;go_upto_region 1 with fail;refine Bt ?_;intro c O Y;have hd:Bw w c.drew:=O.drew;have u:At c nb 7 (.map (some a)):=zab O m;obtain⟨s,t,t2⟩:=C7 Y rfl;obtain⟨r,f,b,d⟩:=RC tys (ty:=0) (t2:=111) IH (p.o.J hd) (l.o.J hd);rw[a_]at b;simp only[AU]at f;obtain⟨g,i⟩:=Ak ((Bi.ab hd:Bi (some a) w c.drew).j d) b;clear b d hd O Y;go_wp2_with fail;go_region;go_wp2_with fail;refine bodyPost_end (results_none rfl _ _ _) rfl ⟨rfl,?_,g.o⟩;rw[Gw,if_pos hk];exact i.o
 have q:(k==0)=false:=QD;go_enter func321,ntmps321;unfold AU;go_upto_region 1 with fail;refine Bt ?_;intro c O Y;have hd:Bw w c.drew:=O.drew;have u:At c nb 7 (.map (some a)):=zab O m;obtain⟨s,t,t2⟩:=C7 Y rfl;obtain⟨r,f,b,d⟩:=UA tys IH (p.o.J hd) (l.o.J hd) (I6 k);rw[Og]at b;simp only[AU]at f;obtain⟨g,i⟩:=Ak ((Bi.ab hd:Bi (some a) w c.drew).j d) b;clear b d hd O Y;go_wp2_with fail;go_region;go_wp2_with fail;refine bodyPost_end (results_none rfl _ _ _) rfl ⟨rfl,?_,g.o⟩;rw[Gw,if_neg hk];exact i.o
end
end Go.Proofs.YtikojfajahnhgaaGreat
