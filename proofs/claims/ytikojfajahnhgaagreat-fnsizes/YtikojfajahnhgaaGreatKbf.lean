import Derived.Test.YtikojfajahnhgaaGreatKaz
import Derived.Test.YtikojfajahnhgaaGreatKbe
set_option linter.all false
set_option maxHeartbeats 6400000
set_option maxRecDepth 100000
namespace Go.Proofs.YtikojfajahnhgaaGreat
attribute [local simp] At I6 Pn mzI
attribute [local go_sem] At I6 Pn
open Go.RowKit Go.Proofs.Tryz
section
attribute [local go_sem ↓] wp_at_zero wp_at_succ
def Qm (nb w):Sem.run prog (method 525 337 (Pn nb) "loop.example/s01311/impl.take") w=.ok (325,Pn nb) w:=by kernel_rfl
def Qh (nb w):Sem.run prog (method 525 334 (Pn nb) "loop.example/s01311/impl.take") w=.ok (320,Pn nb) w:=by kernel_rfl
def Hp(hv:Value)(f:Nat)(r:Nat):Prop:=
 (hv=.func (.method "loop.example/s01311/impl.take") #[.iface 337 (.pointer (some ⟨r,0,none⟩))] #[]∧f=325) ∨
 (hv=.func (.method "loop.example/s01311/impl.take") #[.iface 334 (.pointer (some ⟨r,0,none⟩))] #[]∧f=320) ∨
 (hv=.func (.func 155) #[.pointer (some ⟨r,0,none⟩)] #[]/\f=155)
def CK(u w:World):Prop:=∀(g:Nat)c t fr,u.heap[g]?=some (.cells c t fr)->w.heap[g]?=some (.cells c t fr)
def CK.cell{u w}(h:CK u w){b o v}(d:u.cell? ⟨b,o,none⟩=some v):w.cell? ⟨b,o,none⟩=some v:=by
 cases a:u.heap[b]? with
 |none=>simp[World.cell?,a]at d
 |some f=>
  cases f with
  |cells c t e=>rw[<-d];exact yR (w:=u) ((h b c t e a).c a.y)
  |_=>simp[World.cell?,a]at d
def CK.c{u v w}(h:CK u v)(k:CK v w):CK u w:=λg c t a b=>k g c t a (h g c t a b)
def CK.m{u w}(h:Bw u w):CK u w:=λg _ _ _ a=>(h.block g (Ak a)).c a
def JN(w:World)(nb:Nat)(ng nd up hv:Value)(at_:Nat)(ta:Option Addr)(n tc tb:Nat):Prop:=w.heap[nb]?=some (.cells #[ng,.int .i64 (at_:Int),nd,.slice ta n tc,up,.map (some tb),hv] 339 (0,0))
def j7(nb ng nd up hv at_ ta tc tb ts p0 p1 p2 pf T f s w)(hq:JN w nb ng nd up hv at_ ta ts.length tc tb)(hJ:DS w ta ts)(hT:En w (.pointer p0) (.pointer p1) (.pointer p2) T)(hF:DB w (.pointer pf) f)(hl:ts.length<=1048576)(hfit:∀t∈ts,t.V T f)(aq:at_<3)(fn r)(hH:Hp hv fn r)(Q:World->World->Prop)(hQ:∀u u',Q u u'->CK u u')(ak:ts.all (Ap T f)=true->∀u,Bw w u->Ca fn #[Pn r,.agg (Hg at_ (.pointer pf) (.pointer p0) (.pointer p1) (.pointer p2)),I6 s] u λe w'=>e=.returned (.tuple #[])/\Q u w') :
  Ca 326 #[Pn nb,.agg #[.pointer p0,.pointer p1,.pointer p2],.pointer pf,I6 s] w λe w'=>e=.returned (.tuple #[])/\((ts.all (Ap T f)=false/\Bw w w')∨(ts.all (Ap T f)=true/\∃u,Bw w u/\Q u w')):=by
 obtain⟨HA,HY,ar,HQ⟩:=Bn (λu(hu:Bw w u)=>MZ ng (I6 (at_:Int)) nd (.pointer p0) (.pointer p1) (.pointer p2) (.pointer pf) ts ta tc T f u (hJ.d hu) (hT.d hu) (hF.d hu) hl hfit) ak hQ hq;clear hJ hT hF hfit ak hq hQ;go_enter func326,ntmps326;go_upto_region 1 with fail;refine Be ?_;intro w1 am au;have q1:=(am.block nb (Ak HQ.o)).c HQ.o;have n0:=AS (L:=[_,_,_,_,_,_,_]) q1 (j:=0) rfl;have n1:=AS (L:=[_,_,_,_,_,_,_]) q1 (j:=1) rfl;have n2:=AS (L:=[_,_,_,_,_,_,_]) q1 (j:=2) rfl;have n3:=AS (L:=[_,_,_,_,_,_,_]) q1 (j:=3) rfl;have n6:=AS (L:=[_,_,_,_,_,_,_]) q1 (j:=6) rfl;obtain⟨t0,t1,t2⟩:=Da au rfl;have HW:=Aa am;clear q1 au am HQ
 cases ha:ts.all (Ap T f)
 .rw[ha]at HA
  go_region_held3 (λu=>At u nb 0 ng/\At u nb 1 (I6 (at_:Int))/\At u nb 2 nd/\At u nb 3 (.slice ta ts.length tc)/\At u nb 6 hv/\At u w.heap.size 0 (.pointer p0)/\At u w.heap.size 1 (.pointer p1)/\At u w.heap.size 2 (.pointer p2))
   ((go_split_ands;first|done|(refine⟨?_,?_,?_,?_,?_,?_,?_,?_⟩<;>first|assumption|with_reducible exact zab O qk|with_reducible exact zab ai qk|exact zab An.drew qk)))
   (first|(go_at_call 113;refine(HA.o _ HW.o.drew).rtn λw2 ai=>?_)|fail)
  go_wp2_with fail;exact bodyPost_end (results_none rfl _ _ _) rfl ⟨rfl,.inl ⟨ha,HW.o.drew.thn ai⟩⟩
 rw[ha]at HA
 go_region_held3 (λu=>At u nb 0 ng/\At u nb 1 (I6 (at_:Int))/\At u nb 2 nd/\At u nb 3 (.slice ta ts.length tc)/\At u nb 6 hv/\At u w.heap.size 0 (.pointer p0)/\At u w.heap.size 1 (.pointer p1)/\At u w.heap.size 2 (.pointer p2))
  ((go_split_ands;first|done|(refine⟨?_,?_,?_,?_,?_,?_,?_,?_⟩<;>first|assumption|with_reducible exact zab O qk|with_reducible exact zab ai qk|exact zab An.drew qk)))
  (first|(go_at_call 113;refine(HA.o _ HW.o.drew).rtn λw2 ai=>?_)|fail)
 rename_i hh;obtain⟨_,m1,_,_,m6,v0,v1,v2⟩:=hh;have ao:=Aa (HW.o.drew.thn ai);clear n0 n1 n2 n3 n6 t0 t1 t2 ai HA HW;go_wp2_with fail;rcases hH with⟨rfl,rfl⟩|⟨rfl,rfl⟩|⟨rfl,rfl⟩
 focus
  have hm:=λu=>Qm r u
  go_region_held3 (λu=>At u nb 1 (I6 (at_:Int))∧At u nb 6 (.func (.method "loop.example/s01311/impl.take") #[.iface 337 (Pn r)] #[])∧At u w.heap.size 0 (.pointer p0)∧At u w.heap.size 1 (.pointer p1)∧At u w.heap.size 2 (.pointer p2))
   ((go_split_ands;first|done|(refine⟨?_,?_,?_,?_,?_⟩<;>first|assumption|with_reducible exact CK.cell af qk|with_reducible exact zab O qk|exact zab An.drew qk)))
   (first|(go_at_call 114;refine(Tu p0 p1 p2 pf at_ _ aq).rtn λw3 O=>?_;have aj:=Aa (ao.o.drew.thn O))|(go_at_call 325;refine(HY.o ha w3 aj.o).rtn λw4 ah=>?_;have af:=ar.o _ _ ah)|fail)
 rotate_left
 focus
  have hm:=λu=>Qh r u
  go_region_held3 (λu=>At u nb 1 (I6 (at_:Int))∧At u nb 6 (.func (.method "loop.example/s01311/impl.take") #[.iface 334 (Pn r)] #[])∧At u w.heap.size 0 (.pointer p0)∧At u w.heap.size 1 (.pointer p1)∧At u w.heap.size 2 (.pointer p2))
   ((go_split_ands;first|done|(refine⟨?_,?_,?_,?_,?_⟩<;>first|assumption|with_reducible exact CK.cell af qk|with_reducible exact zab O qk|exact zab An.drew qk)))
   (first|(go_at_call 114;refine(Tu p0 p1 p2 pf at_ _ aq).rtn λw3 O=>?_;have aj:=Aa (ao.o.drew.thn O))|(go_at_call 320;refine(HY.o ha w3 aj.o).rtn λw4 ah=>?_;have af:=ar.o _ _ ah)|fail)
 rotate_left
 focus
  go_region_held3 (λu=>At u nb 1 (I6 (at_:Int))/\At u nb 6 (.func (.func 155) #[Pn r] #[])/\At u w.heap.size 0 (.pointer p0)/\At u w.heap.size 1 (.pointer p1)/\At u w.heap.size 2 (.pointer p2))
   ((go_split_ands;first|done|(refine⟨?_,?_,?_,?_,?_⟩<;>first|assumption|with_reducible exact CK.cell af qk|with_reducible exact zab O qk|exact zab An.drew qk)))
   (first|(go_at_call 114;refine(Tu p0 p1 p2 pf at_ _ aq).rtn λw3 O=>?_;have aj:=Aa (ao.o.drew.thn O))|(go_at_call 155;refine(HY.o ha w3 aj.o).rtn λw4 ah=>?_;have af:=ar.o _ _ ah)|fail)
 rotate_left
 all_goals
  go_wp2_with fail;exact bodyPost_end (results_none rfl _ _ _) rfl ⟨rfl,.inr ⟨ha,w3,aj.o,ah⟩⟩
def BH{σ α:Type}(stp:α->σ->σ->Prop):List α->σ->σ->Prop
 |[],a,b=>a=b
 |x::r,a,b=>∃c,stp x a c/\BH stp r c b
def BH.snoc{σ α stp}:∀{l:List α}{a b c:σ}{x:α},BH stp l a b->stp x b c->BH stp (l++[x]) a c
 |[],a,b,c,x,h,k=>⟨c,by rw[show a=b from h];exact k,rfl⟩
 |y::r,a,b,c,x,⟨d,h1,h2⟩,k=>⟨d,h1,BH.snoc h2 k⟩
def Bt.O{u w a vs}(h:Bt u a vs)(c:CK u w):Bt w a vs:=λi v hv=>by
 obtain⟨b,o,e,O,f,d⟩:=h i v hv;exact⟨b,o,e,c.cell O,c.cell f,c.cell d⟩
def DB.O{u w v f}(h:DB u v f)(d:CK u w):DB w v f:=by
 obtain⟨b,o,e,O,j,a,c,g,i⟩:=h;exact⟨b,o,e,d.cell O,d.cell j,a,c,d.cell g,i.O d⟩
def En.O{u w b a c T}(h:En u b a c T)(j:CK u w):En w b a c T:=λi f g=>by
 obtain⟨pv,e,d⟩:=h i f g;exact⟨pv,e,d.O j⟩
def DS.O{u w a ts}(h:DS u a ts)(c:CK u w):DS w a ts:=λi t j=>by
 obtain⟨b,o,e,O,g,d,f⟩:=h i t j;exact⟨b,o,e,c.cell O,c.cell g,c.cell d,c.cell f⟩
def Ho(w:World)(a:Option Addr)(fs:List F)(adr:F->Addr):Prop:=∀(i:Nat)(f:F),fs[i]?=some f->∃b o,a=some ⟨b,o,none⟩/\w.cell? ⟨b,o+i,none⟩=some (.pointer (some (adr f)))/\DB w (.pointer (some (adr f))) f
def Ho.O{u w a fs adr}(h:Ho u a fs adr)(c:CK u w):Ho w a fs adr:=λi f g=>by
 obtain⟨b,o,e,O,d⟩:=h i f g;exact⟨b,o,e,c.cell O,d.O c⟩
def Ab(adr:F->Addr)(T:List F):Kt:=(T[0]?.map adr,T[1]?.map adr,T[2]?.map adr)
def Xf(adr T f)(h:T.length<3):Value.agg (Hg T.length (.pointer (some (adr f))) (.pointer (T[0]?.map adr)) (.pointer (T[1]?.map adr)) (.pointer (T[2]?.map adr)))=AM (Ab adr (T++[f])):=by
 rcases T with _|⟨a,_|⟨b,_|⟨c,r⟩⟩⟩
 .rfl
 .rfl
 .rfl
 simp at h;omega
def Bg.O{b u w}(h:Bg (some b) u w)(f:∀c t d,u.heap[b]?≠some (.cells c t d)):CK u w:=λg c t d a=>(h.block g (Ak a) (λe=>by injection e with e;subst e;exact f c t d a)).c a
def Ag.aD{w b L}(h:Ag w b L):∀c t d,w.heap[b]?≠some (.cells c t d):=λc t d e=>by
 obtain⟨es,a,f,_⟩:=h.N;rw[f]at e;cases e
def Ag.aw{S w w' b L}(h:Ag w b L)(e:Av S w w')(i:CK w w')(d:¬S b):Ag w' b L:=by
 obtain⟨es,a,k,j⟩:=h.N;exact⟨⟨es,a,(e.block b h.lt d).c k,j⟩,h.nd,λy f=>(h.ok y f).iter λg c t l=>i g c t (0,0) l⟩
structure CE(σ:Type) where
 I:World->σ->Prop
 S:Nat->Prop
 fn:Nat
 r:Nat
 ok:List F->σ->Prop
 stp:List F->σ->σ->Prop
def CE.aR{σ:Type}(K:CE σ)(adr:F->Addr)(s:Int):Prop:=
 (∀u u' a,K.I u a->CK u u'->(∀g,g<u.heap.size->K.S g->u'.heap[g]?=u.heap[g]?)->u.heap.size<=u'.heap.size->K.I u' a) /\
 ∀u a T,K.I u a->K.ok T a->AG u (Ab adr T)->Ca K.fn #[.pointer (some ⟨K.r,0,none⟩),AM (Ab adr T),.int .i64 s] u λe u'=>e=.returned (.tuple #[])/\∃a',K.stp T a a'/\K.I u' a'/\CK u u'/\Av K.S u u'
def AG.snoc{adr w T f}(h:AG w (Ab adr T))(g:A5 w (some (adr f)))(hl:T.length<3):AG w (Ab adr (T++[f])):=by
 have d:A5 w none:=λa e=>by cases e
 rcases T with _|⟨a,_|⟨b,_|⟨c,r⟩⟩⟩
 .exact⟨g,d,d⟩
 .exact⟨h.1,g,d⟩
 .exact⟨h.1,h.2.1,g⟩
 simp at hl;omega
def A5.O{u w p}(h:A5 u p)(b:CK u w):A5 w p:=h.iter λg c t a=>b g c t (0,0) a
def AG.O{u w x}(h:AG u x)(b:CK u w):AG w x:=h.iter λg c t a=>b g c t (0,0) a
def xf{σ}(K:CE σ)(adr s)(hs:s=1∨s = -1)(hK:K.aR adr s)(nb ndb l ng up hv ta fa tc fc ts fs T L a w)(M:JN w nb ng (Pn ndb) up hv T.length ta ts.length tc l)(hH:Hp hv K.fn K.r)(aI:At w ndb 4 (.slice fa fs.length fc))(aL:Ho w fa fs adr)(aF:∀f∈fs,A5 w (some (adr f)))(hJ:DS w ta ts)(hT:En w (.pointer (T[0]?.map adr)) (.pointer (T[1]?.map adr)) (.pointer (T[2]?.map adr)) T)(hl:ts.length<=1048576)(a3:fs.length<=1000)(n:∀f∈fs,∀t∈ts,t.V T f)(ay:T.length<3)(hM:Ag w l (uv L))(hx:AG w (Ab adr T))(hn:s=1->Ab adr T ∉ L)(hI:K.I w a)(D:¬K.S l)(B:∀(i:Nat)(f:F)(k:σ),fs[i]?=some f->ts.all (Ap T f)=true->BH K.stp (((fs.take i).filter (λf=>ts.all (Ap T f))).map (λf=>T++[f])) a k->K.ok (T++[f]) k) :
  Ca 325 #[Pn nb,AM (Ab adr T),I6 s] w λe w'=>e=.returned (.tuple #[])/\(∃k,BH K.stp ((fs.filter (λf=>ts.all (Ap T f))).map (λf=>T++[f])) a k/\K.I w' k)/\Ag w' l (uv (FN (Ab adr T) s L))/\CK w w'/\Av (λg=>g=l∨K.S g) w w':=by
 obtain⟨HQ,aW,a0,HJ,HT,aY,HM,HX,HI⟩:=LA M aL aF hJ hT n hM hx hI;obtain⟨aZ,W,aE,aj⟩:=Bn B hK aI (λ(u:World)(hu:Bw w u)=>XR nb 0 l L (Ab adr T) s u (zab hu (AS (L:=[_,_,_,_,_,_,_]) M (j:=5) rfl)) (hM.d hu) (hx.d hu) hs hn);have a4:nb<w.heap.size:=Ak M;clear M aL aF hJ hT n hM hx hI B hK aI;simp only[Ab,AM]at aj⊢;go_enter func325,ntmps325;go_upto_region 1 with fail;refine Be ?_;intro w1 aJ aH;obtain⟨t0,t1,t2⟩:=Da aH rfl;have v:=Aa aJ;clear aJ
 go_region_held3 (λu=>At u w.heap.size 0 (.pointer (T[0]?.map adr))/\At u w.heap.size 1 (.pointer (T[1]?.map adr))/\At u w.heap.size 2 (.pointer (T[2]?.map adr)))
  ((go_split_ands;first|done|(refine⟨?_,?_,?_⟩<;>first|assumption|with_reducible exact CK.cell ao qk|exact zab An.drew qk)))
  (first|(go_at_call 322;refine(aj.o _ v.o.drew).rtn λU⟨aK,E⟩=>?_;have ao:=E.O (HM.o.d v.o.drew).aD)|fail)
 rename_i hh;obtain⟨v0,v1,v2⟩:=hh;have A:CK w U:=(CK.m v.o.drew).c ao;have aO:w.heap.size<=U.heap.size:=yh v.o.drew.size E.rest.size;obtain⟨I2,P2⟩:=Ah (W.o.1 w U a HI.o A (λg z hS=>(E.block g (yg z v.o.drew.size) (λe'=>D qC)).c (v.o.drew.block g z)) aO) ((Av.m v.o.drew:Av (λg=>g=l∨K.S g) w w1.drew).c (Av.of E (.inl rfl)));have n2:=A.cell (AS (L:=[_,_,_,_,_,_,_]) HQ.o (j:=2) rfl);have f4:=A.cell aE.o;obtain⟨az,M2⟩:=Ah A aK;clear aK E ao A aj HI HM v t0 t1 t2 aH aE;go_wp2_with fail
 go_loopw [24] (λiv wr=>∃(i:Nat)(k:σ),i<=fs.length/\iv=I6 (i:Int)/\BH K.stp (((fs.take i).filter (λf=>ts.all (Ap T f))).map (λf=>T++[f])) a k/\K.I wr k/\Ag wr l (uv (FN (Ab adr T) s L))/\CK U wr/\Av (λg=>g=l∨K.S g) w wr) (λiv _=>fs.length-(intOf iv).toNat)
 case atStart=>exact⟨0,a,yk _,rfl,rfl,I2.o,M2.o,λ_ _ _ _ h=>h,P2.o⟩
 case round=>
  obtain⟨i,k,hi,rfl,C,aG,aS,H,aR⟩:=hrel;obtain⟨R,Z,aC,G,aB⟩:=DE C aG aS H aR;have y0:=H.cell v0;have y1:=H.cell v1;have y2:=H.cell v2;clear C aG aS H aR;by_cases aX:i<fs.length
  .obtain⟨f,N⟩:=Ba aX;have aQ:=yd N;obtain⟨b,o,rfl,a5,aN⟩:=(aW.o.O (az.o.c G.o)) i f N;have i0:(0:Int)<=(i:Int):=qd;have i1:(i:Int)<(fs.length:Int):=qd;have O:=az.o.c G.o;have aT:=Aa (j7 nb ng (Pn ndb) up hv T.length ta tc l ts (T[0]?.map adr) (T[1]?.map adr) (T[2]?.map adr) (some (adr f)) T f s wr (O nb _ _ _ HQ.o) (HJ.o.O O) (HT.o.O O) aN hl (aY.o f aQ) ay K.fn K.r hH (λu Y=>(∃x,K.stp (T++[f]) k x/\K.I Y x)/\CK u Y/\Av K.S u Y) (λ_ _ h=>h.2.1) (λJ u hu=>by
    rw[Xf adr T f ay];exact(W.o.2 u k (T++[f]) (W.o.1 wr u k Z.o (CK.m hu) (λg z _=>hu.block g z) hu.size) (aZ.o i f k N J R.o) ((((HX.o.O O).snoc ((a0.o f aQ).O O) ay)).d hu)).j λe Y h=>⟨h.1,by obtain⟨_,x,h1,h2,h3,h4⟩:=h;exact⟨⟨x,h1,h2⟩,h3,h4⟩⟩))
   clear O aN;go_wp2_with (first|(go_at_call 326;refine aT.o.rtn λw3 aM=>?_)|fail);have aP:fs.take (i+1)=fs.take i++[f]:=by
    rw[yZ,N];rfl
   refine⟨?_,by simp[intOf];omega⟩;rcases aM with⟨J,y⟩|⟨J,u,aA,⟨⟨x,aV,aU⟩,aw,ax⟩⟩
   .refine⟨i+1,k,qd,qm,?_,W.o.1 wr w3 k Z.o (CK.m y) (λg z _=>y.block g z) y.size,aC.o.d y,G.o.c (CK.m y),aB.o.c (Av.m y)⟩;rw[aP,yM,yJ (by rw[J];decide),Yp,yQ];exact R.o
   refine⟨i+1,x,qd,qm,?_,aU,(aC.o.d aA).aw ax aw D,G.o.c ((CK.m aA).c aw),(aB.o.c (Av.m aA)).c (ax.j λg q=>.inr q)⟩;rw[aP,yM,yD (p:=λf=>ts.all (Ap T f)) (a:=f) J,Yp,yF,yq,YB];exact R.o.snoc aV
  obtain rfl:i=fs.length:=qd;have i1:¬(fs.length:Int)<(fs.length:Int):=qd;go_wp2_with fail;have C:=R.o;rw[yV]at C;exact bodyPost_end (results_none rfl _ _ _) rfl ⟨rfl,⟨k,C,Z.o⟩,aC.o,az.o.c G.o,aB.o⟩
def A3.dj{w b r L a}(h:A3 w b r L a):r<w.heap.size:=by
 obtain⟨es,c,since,seen,e,_,_,_,_,d,_⟩:=h.N;exact Ak d
def A3.cB{w b r L a}(h:A3 w b r L a):∀c t f,w.heap[r]?≠some (.cells c t f):=λc t f e=>by
 obtain⟨es,d,since,seen,i,_,_,_,_,g,_⟩:=h.N;rw[g]at e;cases e
def A3.aw{S w w' b r L a}(h:A3 w b r L a)(e:Av S w w')(n:CK w w')(k:¬S b)(l:¬S r):A3 w' b r L a:=by
 obtain⟨es,d,since,seen,o,g,p,j,i,f,q⟩:=h.N;exact⟨⟨es,d,since,seen,o,(e.block b (Ak g) k).c g,p,j,i,(e.block r (Ak f) l).c f,q⟩,h.nd,λy m=>(h.ok y m).O n⟩
def A3.d{w w' b r L a}(h:A3 w b r L a)(c:Bw w w'):A3 w' b r L a:=h.aw (S:=λ_=>False) (Av.m c) (CK.m c) (λh=>h) (λh=>h)
def Tj{w a r o}(h:a=w∨a=w.drew):Bg (some r) w (ChangeMaps.setBlock a r o):=by
 have e:Bg (some r) w a:=by
  rcases h with rfl|rfl
  .exact Bg.refl _ _
  exact Bg.m An.drew
 exact e.c (Bg.put o)
def VW{P mt n l w b T}(i:P.underlying mt=some (.map n l))(h:Ag w b (uv T)):∃o,(Instr.range mt (.map (some b))).run P w=.ok (Pn w.heap.size) (w.alloc o)/\A3 (w.alloc o) b w.heap.size (uv T) T:=by
 obtain⟨es,a,g,f,m,O⟩:=h.N;refine⟨.mapIter (some b) a #[] a,?_,⟨⟨es,a,a,#[],a,?_,f,m,O,heap_alloc_new _ _,O,yu _,yu _,?_⟩,h.nd,λy j=>(h.ok y j).d Aj⟩⟩
 .simp[Instr.range,run_underlying i,gM g,newObj,Sem.run]
 .exact(yS _ _ _ h.lt).c g
 have k:(leftOf es #[]).toList=es.toList:=by simp[leftOf]
 rw[k];have:=congrArg (List.map Prod.fst) (show es.toList.map (λe=>(e.key,e.val))=(uv T).map (λx=>(AM x.1,x.2)) from f);rw[Yv,Yv]at this;refine Eq.c (show _=_ from this) ?_;unfold uv;rw[Yv];rfl
def Av.new{S w u v r}(h:Av S w u)(k:Bg (some r) u v)(d:w.heap.size<=r):Av S w v:=
 ⟨h.rest.c k.rest,λg a b=>(k.block g (yg a h.rest.size) (λe=>qK)).c (h.block g a b)⟩
def A3.left{w b r L a}(h:A3 w b r L a):w.rangeLeft b r=a.length:=by
 obtain⟨es,c,since,seen,m,d,f,k,j,e,g,l,i,O⟩:=h.N;unfold World.rangeLeft;rw[d,e];have:=congrArg List.length O;simpa using this
def Ql{α:Type}{k:α->Kt}:∀{l:List α}{T:α},(l.map k).Nodup->T∈l->l.Perm (T::l.filter (λU=>decide (k U≠k T)))
 |[],T,_,h=>by simp at h
 |y::r,T,hn,h=>by
  rw[yq,y9]at hn
  rcases yG.1 h with e|h
  .subst e
   rw[yJ (by simp)]
   have:r.filter (λU=>decide (k U≠k T))=r:=Yk.2 λU a=>by
    simpa usingλe:k U=k T=>hn.1 (by rw[<-e];exact yU a)
   rw[this]
  have hy:k y≠k T:=λe=>hn.1 (by rw[e];exact yU h)
  rw[yD QW]
  exact(List.Perm.cons y (Ql hn.2 h)).c (List.Perm.swap _ _ _)
def QP{P:Prop}(h:P:=by rwa [show done++T::O=(done++[T])++O from by simp]at this):P:=h
def vx{σ}(K:CE σ)(adr s)(hK:K.aR adr s)(nb ndb G n ng up hv ta aa tc ac ts M)(TT:List (List F))(f a w)(hq:JN w nb ng (Pn ndb) up hv n ta ts.length tc G)(hH:Hp hv K.fn K.r)(R:CP w ndb M aa ac)(hF:DB w (.pointer (some (adr f))) f)(a5:A5 w (some (adr f)))(an:M.x.length<=1048576)(hJ:DS w ta ts)(hl:ts.length<=1048576)(hn:n<3)(ab:∀T∈TT,T.length=n/\En w (.pointer (T[0]?.map adr)) (.pointer (T[1]?.map adr)) (.pointer (T[2]?.map adr)) T/\AG w (Ab adr T))(E:Ae M f=true->∀T∈TT,∀t∈ts,t.V T f)(hM:Ag w G (uv (TT.map (Ab adr))))(hI:K.I w a)(ag:¬K.S G)(ae:∀g,K.S g->g<w.heap.size)(ad:Ae M f=true->∀(pre:List (List F))(T:List F)(aY:List (List F))(z:σ),TT.Perm (pre++T::aY)->ts.all (Ap T f)=true->BH K.stp ((pre.filter (λT=>ts.all (Ap T f))).map (λT=>T++[f])) a z->K.ok (T++[f]) z) :
  Ca 324 #[Pn nb,.pointer (some (adr f)),I6 s] w λe w'=>e=.returned (.tuple #[])/\(∃aN z,TT.Perm aN/\BH K.stp ((aN.filter (λT=>Ae M f&&ts.all (Ap T f))).map (λT=>T++[f])) a z/\K.I w' z)/\Ag w' G (uv (TT.map (Ab adr)))/\CK w w'/\Av K.S w w':=by
 obtain⟨HQ,HJ,bk,HM,HI,Z,HF,bg,a6⟩:=LA hq hJ ab hM hI hK hF a5 E;obtain⟨a7,HP⟩:=Ah ad (OP ndb M aa ac (.pointer (some (adr f))) f w R hF an);have n2:=AS (L:=[_,_,_,_,_,_,_]) hq (j:=2) rfl;have n5:=AS (L:=[_,_,_,_,_,_,_]) hq (j:=5) rfl;clear hq hJ ab hM hI hK R hF a5 E ad;cases hp:Ae M f
 .rw[hp]at HP;go_enter func324,ntmps324;go_wp2_with (first|(go_at_call 152;refine HP.o.rtn λC A=>?_)|fail);refine bodyPost_ret (v:=.tuple #[]) (results_none rfl _ _ _) rfl ⟨rfl,⟨TT,a,.refl _,?_,Z.o.1 w C a HI.o (CK.m A) (λg D _=>A.block g D) A.size⟩,HM.o.d A,CK.m A,Av.m A⟩;have:TT.filter (λT=>false&&ts.all (Ap T f))=[]:=qe;rw[this];rfl
 rw[hp]at HP;obtain⟨aV,aP⟩:=Ah (a6.o hp) (a7.o hp);clear a6 a7;go_enter func324,ntmps324;go_upto_region 1 with(first|(go_at_call 152;refine HP.o.rtn λC A=>?_)|fail);have m5:=zab A n5;obtain⟨o,hR,aH⟩:=VW (P:=prog) EP (HM.o.d A);obtain⟨aU,aZ⟩:=Ah aH A;clear aH A;have bw:=aU.o.dj;have bq:=Aa (An.alloc AH o:Bw C (C.alloc o));have bu:(TT.map (Ab adr)).Nodup:=by have:=HM.o.nd;rwa [PM]at this
 have bp:=Aa bu;have N:=aZ.o.size;have a3:¬K.S C.heap.size:=λh=>by have:=ae _ h;omega
 go_wp2_with fail
 go_loopw [] (λwr=>∃(done b:List (List F))(z:σ),TT.Perm (done++b)/\A3 wr G C.heap.size (uv (TT.map (Ab adr))) (b.map (Ab adr))/\BH K.stp ((done.filter (λT=>ts.all (Ap T f))).map (λT=>T++[f])) a z/\K.I wr z/\CK w wr/\Av K.S w wr) (λwr=>wr.rangeLeft G C.heap.size)
 case atStart=>
  have B:Bw w (C.alloc o):=aZ.o.c (bq.o.j N);exact⟨[],TT,a,.refl _,aU.o,rfl,Z.o.1 w _ a HI.o (CK.m B) (λg D _=>B.block g D) B.size,CK.m B,Av.m B⟩
 case round=>
  obtain⟨done,b,z,aW,aq,aO,aQ,a9,a0⟩:=hrel;obtain⟨aA,aM,ay,bc,aT,aL⟩:=Jk aW aq aO aQ a9 a0;clear aW aO aQ a9 a0;rcases SU (P:=prog) aq 0 with⟨h0,R⟩|⟨x,v,ob,w2,hx,bz,bi,R,ax,hE⟩
  .have bm:b=[]:=WR.1 h0;clear aq;go_wp2_with fail;refine bodyPost_end (results_none rfl _ _ _) rfl ⟨rfl,⟨done,z,?_,?_,bc.o⟩,aM.o.map,aT.o,aL.o⟩
   .have:=aA.o;rwa [bm,yQ]at this
   simpa using ay.o
  obtain⟨T,hT,rfl⟩:=yz.1 hx;have Y:=Tj (r:=C.heap.size) (o:=ob) bi;obtain⟨W,hW⟩:∃W,W=ChangeMaps.setBlock w2 C.heap.size ob:=⟨_,rfl⟩
  rw[<-hW]at R ax hE Y;have aI:=Aa ax;have az:=Y.O aq.cB;have H:=aT.o.c az;have aK:K.I W z:=Z.o.1 wr W z bc.o az (λg D hS=>Y.block g D (λe'=>a3 qC)) Y.rest.size;have bd:T∈TT:=aA.o.y.subset (YD _ hT);obtain⟨bh,a8,aR⟩:=bk.o T bd;have ah:=Ql (k:=Ab adr) (l:=b) (T:=T) (by
   have h1:=(aA.o.map (Ab adr)).nodup_iff.1 bp.o;rw[yF,yK]at h1;exact h1.2.1) hT
  obtain⟨O,aJ⟩:∃q,q=b.filter (λU=>decide (Ab adr U≠Ab adr T)):=⟨_,rfl⟩
  rw[<-aJ]at ah;have au:TT.Perm (done++T::O):=aA.o.c ((YZ _).append ah);have aD:=Aa au;have bf:=Aa (λ(u:World)(hu:Bw W u)=>j7 nb ng (Pn ndb) up hv n ta tc G ts (T[0]?.map adr) (T[1]?.map adr) (T[2]?.map adr) (some (adr f)) T f s u (((H.c (CK.m hu))) nb _ _ _ HQ.o) (HJ.o.O (H.c (CK.m hu))) (a8.O (H.c (CK.m hu))) (HF.o.O (H.c (CK.m hu))) hl (aV.o T bd) hn K.fn K.r hH (λu J=>(∃ao,K.stp (T++[f]) z ao/\K.I J ao)/\CK u J/\Av K.S u J) (λ_ _ h=>h.2.1) (λha J bo=>by
   have aB:Bw W J:=hu.thn bo;rw[<-bh,Xf adr T f qd];exact(Z.o.2 J z (T++[f]) (Z.o.1 W J z aK (CK.m aB) (λg D _=>aB.block g D) aB.size) (aP.o done T O z au ha ay.o) (((aR.O H).snoc (bg.o.O H) qd).d aB)).j λe J h=>⟨h.1,by obtain⟨_,ao,h1,h2,h3,h4⟩:=h;exact⟨⟨ao,h1,h2⟩,h3,h4⟩⟩))
  obtain⟨bl,aS,a4,bv⟩:=Bn aK H Y az;have ar:=aq.left;have ak:O.length<b.length:=by have:=ah.length_eq;simp at this;omega
  simp only[Ab,AM]at R hE;clear aq ax aK H Y az hW au ah a8 aR;have aw:=Aa (λo=>An.alloc AH o:∀o,Bw W (W.alloc o));have aC:A3 W G C.heap.size (uv (TT.map (Ab adr))) (O.map (Ab adr)):=by
   have:=aI.o;rw[YV]at this;rw[aJ];exact this
  have aE:=Aa aC;clear aC aI aJ;go_wp2_with (first|(go_at_call 326;refine(bf.o _ (aw.o _)).rtn λw3 aX=>?_)|fail);rcases aX with⟨ha,bt⟩|⟨ha,u,br,⟨⟨ao,bn,bj⟩,aF,aG⟩⟩
  .have i:Bw W w3:=(aw.o _).c (bt.j (aw.o _).size);have ai:=aE.o.d i;refine⟨⟨done++[T],O,z,?_,ai,?_,Z.o.1 W w3 z bl.o (CK.m i) (λg D _=>i.block g D) i.size,aS.o.c (CK.m i),?_⟩,?_⟩
   .have:=aD.o;exact QP
   .rw[yM,yJ (p:=λT=>ts.all (Ap T f)) (a:=T) (by rw[ha];decide),Yp,yQ];exact ay.o
   .exact(aL.o.new a4.o N).c (Av.m i)
   rw[ai.left,ar,yt,yt];exact ak
  have i:Bw W u:=(aw.o _).c (br.j (aw.o _).size);have ai:=(aE.o.d i).aw aG aF ag a3;refine⟨⟨done++[T],O,ao,?_,ai,?_,bj,aS.o.c ((CK.m i).c aF),?_⟩,?_⟩
  .have:=aD.o;exact QP
  .rw[yM,yD (p:=λT=>ts.all (Ap T f)) (a:=T) ha,Yp,yF,yq,YB];exact ay.o.snoc bn
  .exact(aL.o.new a4.o N).c ((Av.m i).c aG)
  rw[ai.left,ar,yt,yt];exact ak
def nBar(ts:List Jt)(fs:List F)(T:List F):Nat:=(fs.filter (λf=>ts.all (Ap T f))).length
def zjw(y x k s n ndb ts q D T fs fa fc w)(G:w.cell? ⟨ndb,4,none⟩=some (.slice fa fs.length fc))(H:DS w q ts)(I:En w k s n T)(C:JG w fa fs)(hl:ts.length<=1048576)(aF:fs.length<=1000)(g:∀f∈fs,∀t∈ts,t.V T f) :
  Ca 323 #[.agg #[y,x,.pointer (some ⟨ndb,0,none⟩),.slice q ts.length D],.agg #[k,s,n]] w λe w'=>e=.returned (.int .i64 (nBar ts fs T:Int))/\Bw w w':=by
 obtain⟨HN,N,az,Z,aC⟩:=DE G H I C g;clear G H I C g;go_enter func323,ntmps323;go_upto_region 1 with fail;refine BF ?_;intro w1 u z A;obtain⟨c0,c1,L,c3⟩:=Ay z;obtain⟨M,U,t2⟩:=Ao A;have n4:=zab u HN.o;have HW:=Aa u;clear u z A;go_wp2_with fail
 go_loopw [5,14] (λY iv wr=>∃i:Nat,i<=fs.length/\iv=.int .i64 (i:Int)/\Y=.int .i64 (nBar ts (fs.take i) T:Int)/\Bw w1 wr) (λ_ iv _=>fs.length-(intOf iv).toNat)
 case atStart=>exact⟨0,yk _,rfl,rfl,An⟩
 case round=>
  obtain⟨i,hi,rfl,rfl,c⟩:=hrel;have HB:=Aa c;have d0:=zab c c0;have d1:=zab c c1;have d2:=zab c L;have d3:=zab c c3;have u0:=zab c M;have u1:=zab c U;have u2:=zab c t2;have O:Bw w wr:=HW.o.thn c;have ay:=Aa O;clear c;by_cases aB:i<fs.length
  .obtain⟨f,l⟩:=Ba aB;obtain⟨b,o,pv,rfl,E,K⟩:=Z.o i f l;have aE:=zab O E;have i0:(0:Int)<=(i:Int):=qd;have R:(i:Int)<(fs.length:Int):=qd;have r:=Aa (MZ y x (.pointer (some ⟨ndb,0,none⟩)) k s n pv ts q D T f wr (N.o.d O) (az.o.d O) (K.d O) hl (aC.o f (yd l)));have B:fs.take (i+1)=fs.take i++[f]:=by
    rw[yZ,l];rfl
   have v:nBar ts (fs.take (i+1)) T=nBar ts (fs.take i) T+(if ts.all (Ap T f)=true then 1 else 0):=by
    unfold nBar;rw[B,yM,yP];congr 1;by_cases h:ts.all (Ap T f)=true
    .rw[if_pos h,yD (p:=λf=>ts.all (Ap T f)) (a:=f) h];rfl
    rw[if_neg h,yJ (p:=λf=>ts.all (Ap T f)) (a:=f) h];rfl
   have aA:nBar ts (fs.take i) T<=1000:=yh (y8 _ _) (by rw[Yt];omega);have j:=Aa v;clear v B E K O;cases J:ts.all (Ap T f)
   focus
    rw[J]at r j
   rotate_left
   focus
    rw[J]at r j;generalize nBar ts (fs.take i) T=m at j aA
   rotate_left
   all_goals
    go_wp2_with (first|(go_at_call 113;refine r.o.rtn λw3 W=>?_)|fail);exact⟨⟨i+1,qd,qm,by rw[j.o];rfl,HB.o.thn W⟩,by simp[intOf];omega⟩
  obtain rfl:i=fs.length:=qd;have R:¬(fs.length:Int)<(fs.length:Int):=qd;rw[yV];go_wp2_with fail;go_ret;exact⟨rfl,ay.o⟩
def NN(w:World)(nb:Nat)(ng ct nd up hv:Value)(ta:Option Addr)(n tc tb bb:Nat):Prop:=w.heap[nb]?=some (.cells #[ng,ct,nd,.slice ta n tc,up,.map (some tb),hv,.map (some bb)] 336 (0,0))
def il(x v M):As x (Ea x v M)=v:=by
 have h:=MM x (Ea x v M);rw[<-Ol,So]at h;simpa using h.y
def iG(x M):As x (EQ x M)=0:=by
 unfold As EQ;rw[KU.2 (λy a=>by simpa using(yf.1 a).2)];rfl
def Vy(x k M):As x (Gq x k M)=k:=by
 unfold Gq;split
 .rename_i h;rw[h];exact iG x M
 exact il x k M
def CE.au{σ:Type}(K:CE σ)(n:Nat)(T:List F)(a a':σ):Prop:=if n=0 then K.stp T a a' else a'=a
def zoX{σ}(K:CE σ)(adr)(hK:K.aR adr 1)(nb ndb tb bb ng ct up hv ta fa tc fc ts fs T L B a w)(hq:NN w nb ng ct (Pn ndb) up hv ta ts.length tc tb bb)(hH:Hp hv K.fn K.r)(aH:At w ndb 4 (.slice fa fs.length fc))(aK:JG w fa fs)(hJ:DS w ta ts)(hT:En w (.pointer (T[0]?.map adr)) (.pointer (T[1]?.map adr)) (.pointer (T[2]?.map adr)) T)(hl:ts.length<=1048576)(aO:fs.length<=1000)(hfit:∀f∈fs,∀t∈ts,t.V T f)(hM:Ag w tb (uv L))(hB:Ag w bb (iv B))(htb2:tb≠bb)(hx:AG w (Ab adr T))(hn:Ab adr T ∉ L)(hI:K.I w a)(htb:¬K.S tb)(hbb:¬K.S bb)(hok:nBar ts fs T=0->K.ok T a) :
  Ca 320 #[Pn nb,AM (Ab adr T),I6 1] w λe w'=>e=.returned (.tuple #[])/\(∃a',K.au (nBar ts fs T) T a a'/\K.I w' a')/\Ag w' tb (uv (FN (Ab adr T) 1 L))/\Ag w' bb (iv (Gq (Ab adr T) (nBar ts fs T:Int) B))/\CK w w'/\Av (λg=>g=tb∨g=bb∨K.S g) w w':=by
 obtain⟨HQ,aT,HJ,HT,aV,HM,aI,HX,HI⟩:=LA hq aK hJ hT hfit hM hB hx hI;obtain⟨aL,aq,aP,am⟩:=Bn hok hK aH (λ(u:World)(hu:Bw w u)=>XR nb 0 tb L (Ab adr T) 1 u (zab hu (AS (L:=[_,_,_,_,_,_,_,_]) hq (j:=5) rfl)) (hM.d hu) (hx.d hu) (.inl rfl) (λ_=>hn));clear hq aK hJ hT hfit hM hB hx hI hok hK aH;simp only[Ab,AM]at am⊢;go_enter func320,ntmps320;go_upto_region 1 with fail;refine Be ?_;intro w1 aA aG;obtain⟨t0,t1,t2⟩:=Da aG rfl;have q1:=(aA.block nb (Ak HQ.o)).c HQ.o;have n0:=AS (L:=[_,_,_,_,_,_,_,_]) q1 (j:=0) rfl;have n1:=AS (L:=[_,_,_,_,_,_,_,_]) q1 (j:=1) rfl;have n2:=AS (L:=[_,_,_,_,_,_,_,_]) q1 (j:=2) rfl;have n3:=AS (L:=[_,_,_,_,_,_,_,_]) q1 (j:=3) rfl;have n6:=AS (L:=[_,_,_,_,_,_,_,_]) q1 (j:=6) rfl;have n7:=AS (L:=[_,_,_,_,_,_,_,_]) q1 (j:=7) rfl;have HW:=Aa aA;clear aA q1 aG
 go_region_held3 (λu=>At u w.heap.size 0 (.pointer (T[0]?.map adr))/\At u w.heap.size 1 (.pointer (T[1]?.map adr))/\At u w.heap.size 2 (.pointer (T[2]?.map adr))/\At u nb 0 ng/\At u nb 1 ct/\At u nb 2 (Pn ndb)/\At u nb 3 (.slice ta ts.length tc)/\At u nb 6 hv/\At u nb 7 (.map (some bb)))
  ((go_split_ands;first|done|(refine⟨?_,?_,?_,?_,?_,?_,?_,?_,?_⟩<;>first|assumption|with_reducible exact CK.cell ar qk|exact zab An.drew qk)))
  (first|(go_at_call 322;refine(am.o _ HW.o.drew).rtn λw2⟨aJ,aj⟩=>?_;have ar:=aj.O (HM.o.d HW.o.drew).aD)|fail)
 rename_i hh;have C2:CK w w2:=(CK.m HW.o.drew).c ar;have P2:=Aa ((Av.m HW.o.drew:Av (λg=>g=tb∨g=bb∨K.S g) w w1.drew).c (Av.of aj (.inl rfl)));have I2:=Aa (aq.o.1 w w2 a HI.o C2 (λg hg hS=>(aj.block g (yg hg HW.o.drew.size) (λe'=>htb qC)).c (HW.o.drew.block g hg)) (yh HW.o.drew.size aj.rest.size));have M2:=Aa aJ;have B2:=Aa (((aI.o.d HW.o.drew)).ar aj htb2 (HM.o.d HW.o.drew).nc);have ah:=Aa C2;obtain⟨v0,v1,v2,m0,m1,m2,m3,m6,m7⟩:=hh;clear aJ aj ar C2 am HI HM aI t0 t1 t2 n0 n1 n2 n3 n6 n7;have aC:=Aa (λ(u:World)(hu:Bw w2 u)=>zjw ng ct (.pointer (T[0]?.map adr)) (.pointer (T[1]?.map adr)) (.pointer (T[2]?.map adr)) ndb ts ta tc T fs fa fc u ((ah.o.c (CK.m hu)).cell aP.o) (HJ.o.O (ah.o.c (CK.m hu))) (HT.o.O (ah.o.c (CK.m hu))) (λi f hf=>by
  obtain⟨b,o,pv,e,h1,h2⟩:=aT.o i f hf;exact⟨b,o,pv,e,(ah.o.c (CK.m hu)).cell h1,h2.O (ah.o.c (CK.m hu))⟩) hl aO aV.o)
 have aw:=Aa (λ(u:World)(hu:Bw w2 u)(aR:At u nb 7 (.map (some bb)))=>SW nb bb B (Ab adr T) (nBar ts fs T:Int) u aR (B2.o.d hu) ((HX.o.O ah.o).d hu));simp only[Ab,AM]at aw;obtain⟨k,hk⟩:∃k,k=nBar ts fs T:=⟨_,rfl⟩
 obtain⟨fn,az⟩:∃fn,fn=K.fn:=⟨_,rfl⟩
 obtain⟨r,hr⟩:∃r,r=K.r:=⟨_,rfl⟩
 rw[<-az,<-hr]at hH;rw[<-hk]at aC aw aL;obtain⟨au,aQ,HR⟩:=AA hk az hr;clear hk az hr;go_wp2_with fail
 go_region_held3 (λu=>At u w.heap.size 0 (.pointer (T[0]?.map adr))/\At u w.heap.size 1 (.pointer (T[1]?.map adr))/\At u w.heap.size 2 (.pointer (T[2]?.map adr))/\At u nb 0 ng/\At u nb 1 ct/\At u nb 2 (Pn ndb)/\At u nb 3 (.slice ta ts.length tc)/\At u nb 6 hv/\At u nb 7 (.map (some bb)))
  ((go_split_ands;first|done|(refine⟨?_,?_,?_,?_,?_,?_,?_,?_,?_⟩<;>first|assumption|with_reducible exact CK.cell ao qk|with_reducible exact zab aE qk|exact zab An.drew qk)))
  (first|(go_at_call 323;refine(aC.o _ An.drew).rtn λw3 aE=>?_;have af:=Aa ((yX w2.heap.size w2).drew.c aE))|(go_at_call 321;refine(aw.o w3 af.o (zab af.o m7)).rtn λw4⟨aM,ai⟩=>?_;have ao:=ai.O (B2.o.d af.o).aD)|fail)
 rename_i hh;have aD:CK w2 w4:=(CK.m af.o).c ao;obtain⟨ax,P4⟩:=Ah (ah.o.c aD) ((P2.o.c (Av.m af.o)).c (Av.of ai (.inr (.inl rfl))));have aN:∀g,g<w2.heap.size->g≠bb->w4.heap[g]?=w2.heap[g]?:=λg hg hb=>(ai.block g (yg hg af.o.size) (λe'=>hb qM)).c (af.o.block g hg);have aF:w2.heap.size<=w4.heap.size:=yh af.o.size ai.rest.size;have I4:=Aa (aq.o.1 w2 w4 a I2.o aD (λg hg hS=>aN g hg (λe'=>hbb (e'▸hS))) aF);have M4:Hid (Ag w4 tb (uv (FN (Ab adr T) 1 L))):=show Ag _ _ _ from(((M2.o.d af.o)).ar ai (λe'=>htb2 e'.y) (B2.o.d af.o).nc);have B4:Hid (Ag w4 bb (iv (Gq (Ab adr T) (k:Int) B))):=show Ag _ _ _ from aM;have X4:=HX.o.O ax.o;clear v0 v1 v2 m0 m1 m2 m3 m6 m7 aE ao aM ai aD aN aF I2 P2 M2 B2 ah aC aw;obtain⟨v0,v1,v2,m0,m1,m2,m3,m6,m7⟩:=hh;have L4:=MW tys IB (LS w4.drew) (B4.o.d An.drew) (X4.d An.drew) false;rw[MM]at L4;simp only[if_false,Yn]at L4;rw[Vy]at L4;simp only[Ab,AM]at L4;have aU:=Aa X4;clear X4;by_cases hz:k=0
 .have aS:((k:Int)==0)=true:=Nv;go_wp2_with fail
  go_region;clear L4;go_wp2_with fail;have ay:Hid (∀u,Bw w4 u->Ca fn #[Pn r,.agg #[.pointer (T[0]?.map adr),.pointer (T[1]?.map adr),.pointer (T[2]?.map adr)],I6 1] u λe u'=>e=.returned (.tuple #[])/\∃a',K.stp T a a'/\K.I u' a'/\CK u u'/\Av K.S u u'):=show∀_,_ fromλu hu=>by
   rw[aQ.o,HR.o];exact aq.o.2 u a T (aq.o.1 w4 u a I4.o (CK.m hu) (λg hg _=>hu.block g hg) hu.size) (aL.o hz) (aU.o.d hu)
  rcases hH with⟨rfl,rfl⟩|⟨rfl,rfl⟩|⟨rfl,rfl⟩
  focus
   have hm:=λu=>Qm r u
   go_region_held3 (λu=>At u w.heap.size 0 (.pointer (T[0]?.map adr))∧At u w.heap.size 1 (.pointer (T[1]?.map adr))∧At u w.heap.size 2 (.pointer (T[2]?.map adr))∧At u nb 6 (.func (.method "loop.example/s01311/impl.take") #[.iface 337 (Pn r)] #[]))
    ((go_split_ands;first|done|(refine⟨?_,?_,?_,?_⟩<;>first|assumption|with_reducible exact CK.cell O qk|exact zab An.drew qk)))
    (first|(go_at_call 325;refine(ay.o _ An.drew.drew).rtn λw5⟨a',aB,hi5,O,ak⟩=>?_)|fail)
  rotate_left
  focus
   have hm:=λu=>Qh r u
   go_region_held3 (λu=>At u w.heap.size 0 (.pointer (T[0]?.map adr))∧At u w.heap.size 1 (.pointer (T[1]?.map adr))∧At u w.heap.size 2 (.pointer (T[2]?.map adr))∧At u nb 6 (.func (.method "loop.example/s01311/impl.take") #[.iface 334 (Pn r)] #[]))
    ((go_split_ands;first|done|(refine⟨?_,?_,?_,?_⟩<;>first|assumption|with_reducible exact CK.cell O qk|exact zab An.drew qk)))
    (first|(go_at_call 320;refine(ay.o _ An.drew.drew).rtn λw5⟨a',aB,hi5,O,ak⟩=>?_)|fail)
  rotate_left
  focus
   go_region_held3 (λu=>At u w.heap.size 0 (.pointer (T[0]?.map adr))/\At u w.heap.size 1 (.pointer (T[1]?.map adr))/\At u w.heap.size 2 (.pointer (T[2]?.map adr))/\At u nb 6 (.func (.func 155) #[Pn r] #[]))
    ((go_split_ands;first|done|(refine⟨?_,?_,?_,?_⟩<;>first|assumption|with_reducible exact CK.cell O qk|exact zab An.drew qk)))
    (first|(go_at_call 155;refine(ay.o _ An.drew.drew).rtn λw5⟨a',aB,hi5,O,ak⟩=>?_)|fail)
  rotate_left
  all_goals
   go_wp2_with fail;refine bodyPost_end (results_none rfl _ _ _) rfl ⟨rfl,⟨a',by rw[<-au.o,CE.au,if_pos hz];exact aB,hi5⟩,?_,?_,?_,?_⟩
   .exact(M4.o.d An.drew.drew).aw ak O htb
   .have hB:=(B4.o.d An.drew.drew).aw ak O hbb;rw[au.o]at hB;exact hB
   .exact ax.o.c ((CK.m An.drew.drew).c O)
   exact(P4.o.c (Av.m An.drew.drew)).c (ak.j λg q=>.inr (.inr q))
 have aS:((k:Int)==0)=false:=Nv;go_wp2_with fail
 go_region;go_wp2_with fail;refine bodyPost_end (results_none rfl _ _ _) rfl ⟨rfl,⟨a,by rw[<-au.o,CE.au,if_neg hz],?_⟩,?_,?_,?_,?_⟩
 .exact aq.o.1 w4 _ a I4.o (CK.m An.drew) (λg hg _=>(yX w4.heap.size w4).drew.block g hg) (yX w4.heap.size w4).drew.size
 .exact M4.o.d An.drew
 .rw[<-au.o];exact B4.o.d An.drew
 .exact ax.o.c (CK.m An.drew)
 exact P4.o.c (Av.m An.drew)
def zn9{σ}(K:CE σ)(adr)(hK:K.aR adr (-1))(nb tb bb ng ct nd ts up hv T L B)(k:Nat)(a w)(hq:w.heap[nb]?=some (.cells #[ng,ct,nd,ts,up,.map (some tb),hv,.map (some bb)] 336 (0,0)))(hH:Hp hv K.fn K.r)(hM:Ag w tb (uv L))(hB:Ag w bb (iv B))(htb2:tb≠bb)(hx:AG w (Ab adr T))(hk:As (Ab adr T) B=(k:Int))(hI:K.I w a)(htb:¬K.S tb)(hbb:¬K.S bb)(hok:k=0->K.ok T a) :
  Ca 320 #[Pn nb,AM (Ab adr T),I6 (-1)] w λe w'=>e=.returned (.tuple #[])/\(∃a',K.au k T a a'/\K.I w' a')/\Ag w' tb (uv (FN (Ab adr T) (-1) L))/\Ag w' bb (iv (Gq (Ab adr T) 0 B))/\CK w w'/\Av (λg=>g=tb∨g=bb∨K.S g) w w':=by
 obtain⟨HQ,HM,aC,HX,HI,aL,ai,ak,aH⟩:=LA hq hM hB hx hI hok hK (λ(u:World)(hu:Bw w u)=>XR nb 0 tb L (Ab adr T) (-1) u (zab hu (AS (L:=[_,_,_,_,_,_,_,_]) hq (j:=5) rfl)) (hM.d hu) (hx.d hu) (.inr rfl) (λe=>qo)) hk;clear hq hM hB hx hI hok hK hk;simp only[Ab,AM]at ak⊢;go_enter func320,ntmps320;go_upto_region 1 with fail;refine Be ?_;intro w1 ay aA;obtain⟨t0,t1,t2⟩:=Da aA rfl;have q1:=(ay.block nb (Ak HQ.o)).c HQ.o;have n6:=AS (L:=[_,_,_,_,_,_,_,_]) q1 (j:=6) rfl;have n7:=AS (L:=[_,_,_,_,_,_,_,_]) q1 (j:=7) rfl;have HW:=Aa ay;clear ay q1 aA
 go_region_held3 (λu=>At u w.heap.size 0 (.pointer (T[0]?.map adr))/\At u w.heap.size 1 (.pointer (T[1]?.map adr))/\At u w.heap.size 2 (.pointer (T[2]?.map adr))/\At u nb 6 hv/\At u nb 7 (.map (some bb)))
  ((go_split_ands;first|done|(refine⟨?_,?_,?_,?_,?_⟩<;>first|assumption|with_reducible exact CK.cell am qk|exact zab An.drew qk)))
  (first|(go_at_call 322;refine(ak.o _ HW.o.drew).rtn λw2⟨aD,aj⟩=>?_;have am:=aj.O (HM.o.d HW.o.drew).aD)|fail)
 rename_i hh;have C2:CK w w2:=(CK.m HW.o.drew).c am;obtain⟨P2,I2⟩:=Ah ((Av.m HW.o.drew:Av (λg=>g=tb∨g=bb∨K.S g) w w1.drew).c (Av.of aj (.inl rfl))) (ai.o.1 w w2 a HI.o C2 (λg hg hS=>(aj.block g (yg hg HW.o.drew.size) (λe'=>htb qC)).c (HW.o.drew.block g hg)) (yh HW.o.drew.size aj.rest.size));have M2:Hid (Ag w2 tb (uv (FN (Ab adr T) (-1) L))):=show Ag _ _ _ from aD;obtain⟨B2,aB,aq⟩:=AA (((aC.o.d HW.o.drew)).ar aj htb2 (HM.o.d HW.o.drew).nc) C2 (HX.o.O C2);obtain⟨v0,v1,v2,m6,m7⟩:=hh;clear aD aj am C2 ak HI HM aC t0 t1 t2 n6 n7;have az:=Aa (λ(u:World)(aF:At u nb 7 (.map (some bb)))(hB:Ag u bb (iv B))(hx:AG u (Ab adr T))=>SW nb bb B (Ab adr T) 0 u aF hB hx);simp only[Ab,AM]at az;obtain⟨fn,ax⟩:∃fn,fn=K.fn:=⟨_,rfl⟩
 obtain⟨r,hr⟩:∃r,r=K.r:=⟨_,rfl⟩
 rw[<-ax,<-hr]at hH;obtain⟨aE,HR⟩:=Ah ax hr;clear ax hr;have L4:=MW tys IB (LS w2.drew) (B2.o.d An.drew) (aq.o.d An.drew) false;rw[MM]at L4;simp only[if_false,Yn]at L4;rw[aH.o]at L4;simp only[Ab,AM]at L4;by_cases hz:k=0
 .have aG:((k:Int)==0)=true:=Nv;go_wp2_with fail
  go_region;clear L4;go_wp2_with fail;have aw:Hid (∀u,Bw w2 u->Ca fn #[Pn r,.agg #[.pointer (T[0]?.map adr),.pointer (T[1]?.map adr),.pointer (T[2]?.map adr)],I6 (-1)] u λe u'=>e=.returned (.tuple #[])/\∃a',K.stp T a a'/\K.I u' a'/\CK u u'/\Av K.S u u'):=show∀_,_ fromλu hu=>by
   rw[aE.o,HR.o];exact ai.o.2 u a T (ai.o.1 w2 u a I2.o (CK.m hu) (λg hg _=>hu.block g hg) hu.size) (aL.o hz) (aq.o.d hu)
  rcases hH with⟨rfl,rfl⟩|⟨rfl,rfl⟩|⟨rfl,rfl⟩
  focus
   have hm:=λu=>Qm r u
   go_region_held3 (λu=>At u w.heap.size 0 (.pointer (T[0]?.map adr))∧At u w.heap.size 1 (.pointer (T[1]?.map adr))∧At u w.heap.size 2 (.pointer (T[2]?.map adr))∧At u nb 6 (.func (.method "loop.example/s01311/impl.take") #[.iface 337 (Pn r)] #[]))
    ((go_split_ands;first|done|(refine⟨?_,?_,?_,?_⟩<;>first|assumption|with_reducible exact CK.cell O qk|exact zab An.drew qk)))
    (first|(go_at_call 325;refine(aw.o _ An.drew.drew).rtn λw5⟨a',ao,hi5,O,ah⟩=>?_)|fail)
  rotate_left
  focus
   have hm:=λu=>Qh r u
   go_region_held3 (λu=>At u w.heap.size 0 (.pointer (T[0]?.map adr))∧At u w.heap.size 1 (.pointer (T[1]?.map adr))∧At u w.heap.size 2 (.pointer (T[2]?.map adr))∧At u nb 6 (.func (.method "loop.example/s01311/impl.take") #[.iface 334 (Pn r)] #[]))
    ((go_split_ands;first|done|(refine⟨?_,?_,?_,?_⟩<;>first|assumption|with_reducible exact CK.cell O qk|exact zab An.drew qk)))
    (first|(go_at_call 320;refine(aw.o _ An.drew.drew).rtn λw5⟨a',ao,hi5,O,ah⟩=>?_)|fail)
  rotate_left
  focus
   go_region_held3 (λu=>At u w.heap.size 0 (.pointer (T[0]?.map adr))/\At u w.heap.size 1 (.pointer (T[1]?.map adr))/\At u w.heap.size 2 (.pointer (T[2]?.map adr))/\At u nb 6 (.func (.func 155) #[Pn r] #[]))
    ((go_split_ands;first|done|(refine⟨?_,?_,?_,?_⟩<;>first|assumption|with_reducible exact CK.cell O qk|exact zab An.drew qk)))
    (first|(go_at_call 155;refine(aw.o _ An.drew.drew).rtn λw5⟨a',ao,hi5,O,ah⟩=>?_)|fail)
  rotate_left
  all_goals
   rename_i hh;obtain⟨u0,u1,u2,u6⟩:=hh;have C5:=(CK.m (yX w2.heap.size w2).drew.drew).c O;obtain⟨B5,M5⟩:=Ah ((B2.o.d An.drew.drew).aw ah O hbb) ((M2.o.d An.drew.drew).aw ah O htb);obtain⟨au,aK,aI,aM,aJ⟩:=DE (az.o w5 (C5.cell m7) B5.o (aq.o.O C5)) C5 ah hi5 ao;clear v0 v1 v2 m6 m7 O ah hi5 ao C5;go_wp2_with (first|(go_at_call 321;refine au.o.rtn λw6⟨ar,af⟩=>?_)|fail);have C6:=af.O B5.o.aD;refine bodyPost_end (results_none rfl _ _ _) rfl ⟨rfl,⟨a',by rw[CE.au,if_pos hz];exact aJ.o,ai.o.1 w5 w6 a' aM.o C6 (λg hg hS=>af.block g hg (λe'=>hbb qC)) af.rest.size⟩,?_,ar,aB.o.c (aK.o.c C6),?_⟩
   .exact M5.o.ar af (λe'=>htb2 e'.y) B5.o.nc
   exact((P2.o.c (Av.m An.drew.drew)).c (aI.o.j λg q=>.inr (.inr q))).c (Av.of af (.inr (.inl rfl)))
 have aG:((k:Int)==0)=false:=Nv;go_wp2_with fail
 go_region;have B5:=Aa (B2.o.d (yX w2.heap.size w2).drew);have au:=Aa (az.o w2.drew m7 B5.o (aq.o.d (yX w2.heap.size w2).drew));go_wp2_with (first|(go_at_call 321;refine au.o.rtn λw6⟨ar,af⟩=>?_)|fail);have C6:=af.O B5.o.aD;refine bodyPost_end (results_none rfl _ _ _) rfl ⟨rfl,⟨a,by rw[CE.au,if_neg hz],ai.o.1 w2.drew w6 a (ai.o.1 w2 _ a I2.o (CK.m An.drew) (λg hg _=>(yX w2.heap.size w2).drew.block g hg) (yX w2.heap.size w2).drew.size) C6 (λg hg hS=>af.block g hg (λe'=>hbb qC)) af.rest.size⟩,?_,ar,aB.o.c ((CK.m (yX w2.heap.size w2).drew).c C6),?_⟩
 .exact(M2.o.d An.drew).ar af (λe'=>htb2 e'.y) B5.o.nc
 exact(P2.o.c (Av.m An.drew)).c (Av.of af (.inr (.inl rfl)))
end
def lP{x y}(h:x≠y)(v M):As y (Ea x v M)=As y M:=by
 unfold Ea;split
 .unfold As
  induction M with
  |nil=>rfl
  |cons z r ih=>
   rename_i f;rw[yq];by_cases O:z.1=y
   .have b:¬z.1=x:=λe=>h (e.y.c O);rw[if_neg b];simp[O]
   have h1:¬(if z.1=x then(x,v) else z).1=y:=by
    split
    .exact h
    exact O
   rw[Wd qw,Wd qZ];by_cases a:x∈r.map Prod.fst
   .exact ih a
   have:r.map (λy=>if y.1=x then(x,v) else y)=r.map id:=Ye λq d=>by
    rw[if_neg (λe=>a (by rw[<-e];exact yU d))];rfl
   rw[this,Kx]
 unfold As;rw[List.find?_append];cases M.find? (λz=>decide (z.1=y)) with
 |some q=>rfl
 |none=>simp[h]
def lq{x y}(h:x≠y)(M):As y (EQ x M)=As y M:=by
 unfold As EQ;rw[List.find?_filter];congr 3
 funext z
 by_cases O:z.1=y
 .have:¬z.1=x:=λe=>h (e.y.c O);simp[O];exactλe=>h e.y
 simp[O]
def Tl{x y}(h:x≠y)(k M):As y (Gq x k M)=As y M:=by
 unfold Gq;split
 .exact lq h M
 exact lP h k M
def Dw(adr:F->Addr)(s:Int):List (List F)->List (Kt × Int)->List (Kt × Int)
 |[],B=>B
 |T::r,B=>Dw adr s r (Gq (Ab adr T) (As (Ab adr T) B+s) B)
def Xv(adr s T):∀(l:List (List F))(B:List (Kt × Int)),Dw adr s (l++[T]) B=Gq (Ab adr T) (As (Ab adr T) (Dw adr s l B)+s) (Dw adr s l B)
 |[],_=>rfl
 |_::r,_=>Xv adr s T r _
def Oq(adr s x):∀(l:List (List F))(B:List (Kt × Int)),x ∉ l.map (Ab adr)->As x (Dw adr s l B)=As x B
 |[],_,_=>rfl
 |U::r,B,h=>by
  rw[yq,yG,not_or]at h
  exact(Oq adr s x r _ h.2).c (Tl (KK h.1) _ _)
def Xm(adr s T):∀(l:List (List F))(B:List (Kt × Int)),(l.map (Ab adr)).Nodup->T∈l->As (Ab adr T) (Dw adr s l B)=As (Ab adr T) B+s
 |U::r,B,hn,h=>by
  rw[yq,y9]at hn
  by_cases e:Ab adr T=Ab adr U
  .rw[Dw,Oq adr s _ r _ (by rw[e];exact hn.1),e,Vy]
  have a:T∈r:=by
   rcases yG.1 h with h|h
   .exact absurd (by rw[h]) e
   exact h
  rw[Dw,Xm adr s T r _ hn.2 a,Tl (KK e)]
section
attribute [local go_sem ↓] wp_at_zero wp_at_succ
def fX{P:Prop}(h:P:=by
 obtain⟨HQ,HJ,bO,HM,br,HI,ar,HF,bE⟩:=LA hq hJ hTT hM hB hI hK hF hfit;obtain⟨bF,bu,HP⟩:=AA hok hcnt (OP ndb al aa ac (.pointer (some (adr f))) f w hN hF hal);have n2:=AS (L:=[_,_,_,_,_,_,_,_]) hq (j:=2) rfl;have n5:=AS (L:=[_,_,_,_,_,_,_,_]) hq (j:=5) rfl;have b0:=hB.lt;obtain⟨fn,a3⟩:∃fn,fn=K.fn:=⟨_,rfl⟩
 obtain⟨r,hr⟩:∃r,r=K.r:=⟨_,rfl⟩
 rw[<-a3,<-hr]at hH;obtain⟨bi,HR⟩:=Ah a3 hr;clear hq hJ hTT hM hB hI hK hN hF hfit hok hcnt a3 hr;cases hp:Ae al f
 .rw[hp]at HP;go_enter func319,ntmps319;go_wp2_with (first|(go_at_call 152;refine HP.o.rtn λw1 aj=>?_)|fail);refine bodyPost_ret (v:=.tuple #[]) (results_none rfl _ _ _) rfl ⟨rfl,⟨TT,a,.refl _,?_,ar.o.1 w w1 a HI.o (CK.m aj) (λg hg _=>aj.block g hg) aj.size,?_⟩,HM.o.d aj,CK.m aj,Av.m aj⟩
  .first
    | (have _:=tP
       have:TT.filter (λT=>false&&(ts.all (Ap T f)&&decide (As (Ab adr T) B=0)))=[]:=by simp)
    |(have:TT.filter (λT=>false&&(ts.all (Ap T f)&&decide (As (Ab adr T) B=1)))=[]:=by simp)
   rw[this];rfl
  have:TT.filter (λT=>false&&ts.all (Ap T f))=[]:=by simp
  rw[this];exact br.o.d aj
 .rw[hp]at HP;obtain⟨bq,aU,bv⟩:=AA (bE.o hp) (bF.o hp) (bu.o hp);clear bE bF bu;go_enter func319,ntmps319;go_upto_region 1 with(first|(go_at_call 152;refine HP.o.rtn λw1 aj=>?_)|fail);have m5:=zab aj n5;obtain⟨o,hR,aV⟩:=VW (P:=prog) EP (HM.o.d aj);obtain⟨bp,bA⟩:=Ah aV aj;clear aV aj;have bZ:=bp.o.dj;have bT:=Aa (An.alloc AH o:Bw w1 (w1.alloc o));have bX:(TT.map (Ab adr)).Nodup:=by have:=HM.o.nd;rwa [PM]at this
  have bS:=Aa bX;have hs1:=bA.o.size;have bC:¬K.S w1.heap.size:=λh=>by have:=hSl _ h;omega
  have a0:w1.heap.size≠bb:=by omega
  go_wp2_with fail
  first
   | (have _:=tP
      go_loopw [] (λwr=>∃(done todo:List (List F))(a':σ),TT.Perm (done++todo)/\A3 wr tb w1.heap.size (uv (TT.map (Ab adr))) (todo.map (Ab adr))/\BH K.stp (done.filter (λT=>ts.all (Ap T f)&&decide (As (Ab adr T) B=0))) a a'/\K.I wr a'/\Ag wr bb (iv (Dw adr 1 (done.filter (λT=>ts.all (Ap T f))) B))/\CK w wr/\Av (λg=>g=bb∨K.S g) w wr) (λwr=>wr.rangeLeft tb w1.heap.size))
   |(go_loopw [] (λwr=>∃(done todo:List (List F))(a':σ),TT.Perm (done++todo)/\A3 wr tb w1.heap.size (uv (TT.map (Ab adr))) (todo.map (Ab adr))/\BH K.stp (done.filter (λT=>ts.all (Ap T f)&&decide (As (Ab adr T) B=1))) a a'/\K.I wr a'/\Ag wr bb (iv (Dw adr (-1) (done.filter (λT=>ts.all (Ap T f))) B))/\CK w wr/\Av (λg=>g=bb∨K.S g) w wr) (λwr=>wr.rangeLeft tb w1.heap.size))
  case atStart=>
   have aF:Bw w (w1.alloc o):=bA.o.c (bT.o.j hs1);exact⟨[],TT,a,.refl _,bp.o,rfl,ar.o.1 w _ a HI.o (CK.m aF) (λg hg _=>aF.block g hg) aF.size,br.o.d aF,CK.m aF,Av.m aF⟩
  case round=>
   obtain⟨done,todo,a',bw,aC,bk,bl,bf,bH,bB⟩:=hrel;obtain⟨aL,bj,aE,bJ,bI,bo,aP⟩:=Jj bw aC bk bl bf bH bB;clear bw bk bl bf bH bB;rcases SU (P:=prog) aC 0 with⟨h0,hN⟩|⟨x,v,ob,w2,hx,b4,bL,hN,aI,hE⟩
   .have bP:todo=[]:=WR.1 h0;clear aC;go_wp2_with fail;refine bodyPost_end (results_none rfl _ _ _) rfl ⟨rfl,⟨done,a',?_,?_,bJ.o,?_⟩,bj.o.map,bo.o,aP.o⟩
    .have:=aL.o;rwa [bP,yQ]at this
    .simpa using aE.o
    simpa using bI.o
   obtain⟨T,hT,rfl⟩:=yz.1 hx;have hO:=Tj (r:=w1.heap.size) (o:=ob) bL;obtain⟨W,hW⟩:∃W,W=ChangeMaps.setBlock w2 w1.heap.size ob:=⟨_,rfl⟩
   rw[<-hW]at hN aI hE hO;have aW:=Aa aI;have aX:=hO.O aC.cB;have bz:=bo.o.c aX;have bt:K.I W a':=ar.o.1 wr W a' bJ.o aX (λg hg hS=>hO.block g hg (λe'=>bC (by injection e' with e';rw[e'];exact hS))) hO.rest.size;have bh:=Aa (bI.o.ar hO a0 (λc t=>aC.cB c t (0,0)));have bd:T∈TT:=aL.o.y.subset (YD _ hT);obtain⟨bG,bm⟩:=bO.o T bd;have aN:=(aL.o.map (Ab adr)).nodup_iff.1 bS.o;rw[yF,yK]at aN;have ax:=Ql (k:=Ab adr) (l:=todo) (T:=T) aN.2.1 hT;have bg:=Aa (λhx:Ab adr T∈done.map (Ab adr)=>aN.2.2 _ hx _ (yU hT) rfl);obtain⟨O,aZ⟩:∃q,q=todo.filter (λU=>decide (Ab adr U≠Ab adr T)):=⟨_,rfl⟩
   rw[<-aZ]at ax;have az:Hid (TT.Perm (done++T::O)):=show List.Perm _ _ from aL.o.c ((YZ _).append ax);obtain⟨a5,aq,bc,bR,a8⟩:=DE bt bz hO bG bm;have aB:=aC.left;have aw:O.length<todo.length:=by have:=ax.length_eq;simp at this;omega
   simp only[Ab,AM]at hN hE;have aT:A3 W tb w1.heap.size (uv (TT.map (Ab adr))) (O.map (Ab adr)):=by
    have:=aW.o;rw[YV]at this;rw[aZ];exact this
   have aG:=Aa aT;clear aC aI bt bz hO aX hW ax bG bm aN aT aW aZ;go_upto_region 4 with fail;refine Be ?_;intro w3 aY bn;obtain⟨t0,t1,t2⟩:=Da bn rfl;have aD:=Aa aY;have q3:=(aq.o.c (CK.m aY)) nb _ _ _ HQ.o;have p0:=AS (L:=[_,_,_,_,_,_,_,_]) q3 (j:=0) rfl;have p1:=AS (L:=[_,_,_,_,_,_,_,_]) q3 (j:=1) rfl;have p2:=AS (L:=[_,_,_,_,_,_,_,_]) q3 (j:=2) rfl;have p3:=AS (L:=[_,_,_,_,_,_,_,_]) q3 (j:=3) rfl;have p6:=AS (L:=[_,_,_,_,_,_,_,_]) q3 (j:=6) rfl;have p7:=AS (L:=[_,_,_,_,_,_,_,_]) q3 (j:=7) rfl;have aH:=Aa (λ(u:World)(hu:Bw w3 u)=>MZ ng ct (Pn ndb) (.pointer (T[0]?.map adr)) (.pointer (T[1]?.map adr)) (.pointer (T[2]?.map adr)) (.pointer (some (adr f))) ts ta tc T f u (HJ.o.O (aq.o.c (CK.m (aD.o.thn hu)))) (bR.o.O (aq.o.c (CK.m (aD.o.thn hu)))) (HF.o.O (aq.o.c (CK.m (aD.o.thn hu)))) hl (bq.o T bd));clear aY q3 bn
   cases ha:ts.all (Ap T f)
   .rw[ha]at aH
    go_region_held3 (λu=>At u nb 0 ng/\At u nb 1 ct/\At u nb 2 (Pn ndb)/\At u nb 3 (.slice ta ts.length tc)/\At u nb 6 hv/\At u nb 7 (.map (some bb))/\At u W.heap.size 0 (.pointer (T[0]?.map adr))/\At u W.heap.size 1 (.pointer (T[1]?.map adr))/\At u W.heap.size 2 (.pointer (T[2]?.map adr)))
     ((go_split_ands;first|done|(refine⟨?_,?_,?_,?_,?_,?_,?_,?_,?_⟩<;>first|assumption|with_reducible exact zab aA (by assumption)|exact zab An.drew (by assumption))))
     (first|(go_at_call 113;refine(aH.o _ An.drew).rtn λw4 aA=>?_)|fail)
    have hb':Bw W w4:=aD.o.c (((yX w3.heap.size w3).drew.c aA).j aD.o.size);have ak:=Aa hb';clear aA hb' p0 p1 p2 p3 p6 p7 t0 t1 t2;go_wp2_with fail;have af:=aG.o.d ak.o;refine⟨⟨done++[T],O,a',?_,af,?_,ar.o.1 W w4 a' a5.o (CK.m ak.o) (λg hg _=>ak.o.block g hg) ak.o.size,?_,aq.o.c (CK.m ak.o),?_⟩,?_⟩
    .have:=az.o;exact QP
    .first
      | (have _:=tP
         rw[yM,yJ (p:=λT=>ts.all (Ap T f)&&decide (As (Ab adr T) B=0)) (a:=T) (by rw[ha];simp),Yp,yQ])
      |(rw[yM,yJ (p:=λT=>ts.all (Ap T f)&&decide (As (Ab adr T) B=1)) (a:=T) (by rw[ha];simp),Yp,yQ])
     exact aE.o
    .rw[yM,yJ (p:=λT=>ts.all (Ap T f)) (a:=T) (by rw[ha];decide),Yp,yQ];exact bh.o.d ak.o
    .exact(aP.o.new bc.o hs1).c (Av.m ak.o)
    rw[af.left,aB,yt,yt];exact aw
   obtain⟨k,hk,b5⟩:=bv.o T bd ha;have HK:=Aa hk;clear hk;rw[ha]at aH
   go_region_held3 (λu=>At u nb 0 ng/\At u nb 1 ct/\At u nb 2 (Pn ndb)/\At u nb 3 (.slice ta ts.length tc)/\At u nb 6 hv/\At u nb 7 (.map (some bb))/\At u W.heap.size 0 (.pointer (T[0]?.map adr))/\At u W.heap.size 1 (.pointer (T[1]?.map adr))/\At u W.heap.size 2 (.pointer (T[2]?.map adr)))
    ((go_split_ands;first|done|(refine⟨?_,?_,?_,?_,?_,?_,?_,?_,?_⟩<;>first|assumption|with_reducible exact zab aA (by assumption)|exact zab An.drew (by assumption))))
    (first|(go_at_call 113;refine(aH.o _ An.drew).rtn λw4 aA=>?_)|fail)
   rename_i hh;have hb':Bw W w4:=aD.o.c (((yX w3.heap.size w3).drew.c aA).j aD.o.size);have ai:=Aa hb';clear aA hb' p0 p1 p2 p3 p6 p7 t0 t1 t2 aH;obtain⟨m0,m1,m2,m3,m6,m7,v0,v1,v2⟩:=hh;have a9:=Aa (a8.o.O (aq.o.c (CK.m ai.o)))
   first
    | (have _:=tP
       have aQ:As (Ab adr T) (Dw adr 1 (done.filter (λT=>ts.all (Ap T f))) B)=(k:Int):=(Oq adr 1 _ _ B (λhx=>bg.o (((YR (p:=λT=>ts.all (Ap T f)) (l:=done)).map (Ab adr)).subset hx))).c HK.o)
    |(have aQ:As (Ab adr T) (Dw adr (-1) (done.filter (λT=>ts.all (Ap T f))) B)=(k:Int)+1:=(Oq adr (-1) _ _ B (λhx=>bg.o (((YR (p:=λT=>ts.all (Ap T f)) (l:=done)).map (Ab adr)).subset hx))).c HK.o)
   have au:=Aa (bh.o.d ai.o)
   first
    | (have _:=tP
       obtain⟨Bd,aM⟩:∃Bd,Bd=Dw adr 1 (done.filter (λT=>ts.all (Ap T f))) B:=⟨_,rfl⟩)
    |(obtain⟨Bd,aM⟩:∃Bd,Bd=Dw adr (-1) (done.filter (λT=>ts.all (Ap T f))) B:=⟨_,rfl⟩)
   rw[<-aM]at aQ au;obtain⟨bD,a6⟩:=Ah aM aQ;clear aM aQ;have L5:=MW tys IB (LS w4.drew) (au.o.d An.drew) (a9.o.d An.drew) false;rw[MM]at L5;simp only[if_false,Yn]at L5;rw[a6.o]at L5;simp only[Ab,AM]at L5
   first
    | (have _:=tP
       have aR:=Aa (SW nb bb Bd (Ab adr T) ((k:Int)+1) w4.drew m7 (au.o.d An.drew) (a9.o.d An.drew)))
    |(have aR:=Aa (SW nb bb Bd (Ab adr T) ((k:Int)) w4.drew m7 (au.o.d An.drew) (a9.o.d An.drew)))
   simp only[Ab,AM]at aR
   first
    | (have _:=tP
       have bU:IntKind.i64.wrap ((k:Int)+1)=(k:Int)+1:=by
         rw[Yg];omega)
    | (have bU:IntKind.i64.wrap ((k:Int)+1+(-1))=(k:Int):=by
         rw[Yg];omega)
   have b6:IntKind.i64.wrap (k:Int)=(k:Int):=by
    exact OU
   have bY:((k:Int)+1==0)=false:=by
    simp;omega
   by_cases hz:k=0
   .have bQ:((k:Int)==0)=true:=by simpa using hz
    have HZ:=Aa hz;clear hz;go_wp2_with fail;go_region;clear L5;go_wp2_with (first|(go_at_call 321;refine aR.o.rtn λw5⟨aJ,ao⟩=>?_;have ah:=ao.O (au.o.d An.drew).aD;have u0:=ah.cell v0;have u1:=ah.cell v1;have u2:=ah.cell v2;have u6:=ah.cell m6;clear v0 v1 v2 m0 m1 m2 m3 m6 m7)|fail);have C5:=(CK.m ai.o.drew).c ah;have hsz:=yh ai.o.drew.size ao.rest.size;have I5:=ar.o.1 W w5 a' a5.o C5 (λg hg hS=>(ao.block g (yg hg ai.o.drew.size) (λe'=>hbb (by injection e' with e';rw[e'];exact hS))).c (ai.o.drew.block g hg)) hsz;have P5:Hid (Av (λg=>g=bb) W w5):=show Av _ _ _ from(Av.m ai.o.drew).c (Av.of ao rfl);obtain⟨R5,bV,bW⟩:=AA (aG.o.aw P5.o C5 htb2 a0) aJ C5
    first
     | (have _:=tP
        have aK:Hid (∀u,Bw w5 u->Ca fn #[Pn r,.agg #[.pointer (T[0]?.map adr),.pointer (T[1]?.map adr),.pointer (T[2]?.map adr)],I6 (-1)] u λe u'=>e=.returned (.tuple #[])/\∃ay,K.stp T a' ay/\K.I u' ay/\CK u u'/\Av K.S u u'):=show∀_,_ fromλu hu=>by
          rw[bi.o,HR.o];exact ar.o.2 u a' T (ar.o.1 w5 u a' I5 (CK.m hu) (λg hg _=>hu.block g hg) hu.size) (aU.o done T O a' az.o ha (HK.o.c (by rw[HZ.o];rfl)) aE.o) ((a8.o.O (aq.o.c C5)).d hu))
     | (have aK:Hid (∀u,Bw w5 u->Ca fn #[Pn r,.agg #[.pointer (T[0]?.map adr),.pointer (T[1]?.map adr),.pointer (T[2]?.map adr)],I6 1] u λe u'=>e=.returned (.tuple #[])/\∃ay,K.stp T a' ay/\K.I u' ay/\CK u u'/\Av K.S u u'):=show∀_,_ fromλu hu=>by
          rw[bi.o,HR.o];exact ar.o.2 u a' T (ar.o.1 w5 u a' I5 (CK.m hu) (λg hg _=>hu.block g hg) hu.size) (aU.o done T O a' az.o ha (HK.o.c (by rw[HZ.o];rfl)) aE.o) ((a8.o.O (aq.o.c C5)).d hu))
    clear aJ ao ah C5 hsz I5;rcases hH with⟨rfl,rfl⟩|⟨rfl,rfl⟩|⟨rfl,rfl⟩
    focus
     have hm:=λu=>Qm r u
     go_region_held3 (λu=>At u W.heap.size 0 (.pointer (T[0]?.map adr))∧At u W.heap.size 1 (.pointer (T[1]?.map adr))∧At u W.heap.size 2 (.pointer (T[2]?.map adr))∧At u nb 6 (.func (.method "loop.example/s01311/impl.take") #[.iface 337 (Pn r)] #[]))
      ((go_split_ands;first|done|(refine⟨?_,?_,?_,?_⟩<;>first|assumption|with_reducible exact CK.cell am (by assumption)|exact zab An.drew (by assumption))))
      (first|(go_at_call 325;refine(aK.o _ An.drew).rtn λw6⟨ay,aS,hi6,am,aO⟩=>?_)|fail)
    rotate_left
    focus
     have hm:=λu=>Qh r u
     go_region_held3 (λu=>At u W.heap.size 0 (.pointer (T[0]?.map adr))∧At u W.heap.size 1 (.pointer (T[1]?.map adr))∧At u W.heap.size 2 (.pointer (T[2]?.map adr))∧At u nb 6 (.func (.method "loop.example/s01311/impl.take") #[.iface 334 (Pn r)] #[]))
      ((go_split_ands;first|done|(refine⟨?_,?_,?_,?_⟩<;>first|assumption|with_reducible exact CK.cell am (by assumption)|exact zab An.drew (by assumption))))
      (first|(go_at_call 320;refine(aK.o _ An.drew).rtn λw6⟨ay,aS,hi6,am,aO⟩=>?_)|fail)
    rotate_left
    focus
     go_region_held3 (λu=>At u W.heap.size 0 (.pointer (T[0]?.map adr))/\At u W.heap.size 1 (.pointer (T[1]?.map adr))/\At u W.heap.size 2 (.pointer (T[2]?.map adr))/\At u nb 6 (.func (.func 155) #[Pn r] #[]))
      ((go_split_ands;first|done|(refine⟨?_,?_,?_,?_⟩<;>first|assumption|with_reducible exact CK.cell am (by assumption)|exact zab An.drew (by assumption))))
      (first|(go_at_call 155;refine(aK.o _ An.drew).rtn λw6⟨ay,aS,hi6,am,aO⟩=>?_)|fail)
    rotate_left
    all_goals
     obtain⟨bM,bN,a4,a7⟩:=Bn aS hi6 am aO;clear aS hi6 am aO u0 u1 u2 u6;go_wp2_with fail;have af:=(R5.o.d An.drew).aw a7.o a4.o htb bC;refine⟨⟨done++[T],O,ay,?_,af,?_,bN.o,?_,aq.o.c (bW.o.c ((CK.m An.drew).c a4.o)),?_⟩,?_⟩
     .have:=az.o;exact QP
     .first
       | (have _:=tP
          rw[yM,yD (p:=λT=>ts.all (Ap T f)&&decide (As (Ab adr T) B=0)) (a:=T) (by rw[ha,HK.o,HZ.o];rfl),Yp])
       |(rw[yM,yD (p:=λT=>ts.all (Ap T f)&&decide (As (Ab adr T) B=1)) (a:=T) (by rw[ha,HK.o,HZ.o];rfl),Yp])
      exact aE.o.snoc bM.o
     .rw[yM,yD (p:=λT=>ts.all (Ap T f)) (a:=T) ha,Yp,Xv,<-bD.o,a6.o];have bK:=(bV.o.d An.drew).aw a7.o a4.o hbb
      first
       |(have _:=tP)
       |(rw[show(k:Int)+1 + -1=(k:Int) from by omega])
      exact bK
     .exact((aP.o.new bc.o hs1).c (P5.o.j λg q=>.inl q)).c ((Av.m An.drew).c (a7.o.j λg q=>.inr q))
     rw[af.left,aB,yt,yt];exact aw
   have bQ:((k:Int)==0)=false:=by simpa using hz
   have HZ:=Aa hz;clear hz;go_wp2_with fail;go_region;clear L5;go_wp2_with (first|(go_at_call 321;refine aR.o.rtn λw5⟨aJ,ao⟩=>?_;have ah:=ao.O (au.o.d An.drew).aD;clear v0 v1 v2 m0 m1 m2 m3 m6 m7)|fail);have C5:=(CK.m ai.o.drew).c ah;have hsz:=yh ai.o.drew.size ao.rest.size;have I5:=ar.o.1 W w5 a' a5.o C5 (λg hg hS=>(ao.block g (yg hg ai.o.drew.size) (λe'=>hbb (by injection e' with e';rw[e'];exact hS))).c (ai.o.drew.block g hg)) hsz;have P5:Av (λg=>g=bb) W w5:=(Av.m ai.o.drew).c (Av.of ao rfl);have af:=aG.o.aw P5 C5 htb2 a0;refine⟨⟨done++[T],O,a',?_,af,?_,I5,?_,aq.o.c C5,?_⟩,?_⟩
   .have:=az.o;exact QP
   .first
     | (have _:=tP
        rw[yM,yJ (p:=λT=>ts.all (Ap T f)&&decide (As (Ab adr T) B=0)) (a:=T) (by have:=HZ.o;rw[HK.o];simp;omega),Yp,yQ])
     |(rw[yM,yJ (p:=λT=>ts.all (Ap T f)&&decide (As (Ab adr T) B=1)) (a:=T) (by have:=HZ.o;rw[HK.o];simp;omega),Yp,yQ])
    exact aE.o
   .rw[yM,yD (p:=λT=>ts.all (Ap T f)) (a:=T) ha,Yp,Xv,<-bD.o,a6.o]
    first
     |(have _:=tP)
     |(rw[show(k:Int)+1 + -1=(k:Int) from by omega])
    exact aJ
   .exact(aP.o.new bc.o hs1).c (P5.j λg q=>.inl q)
   rw[af.left,aB,yt,yt];exact aw
 ):P:=h
def z_{σ}(K:CE σ)(adr)(hK:K.aR adr (-1))(nb ndb tb bb ng ct up hv ta aa tc ac ts al)(TT:List (List F))(f B a w)(hq:NN w nb ng ct (Pn ndb) up hv ta ts.length tc tb bb)(hH:Hp hv K.fn K.r)(hN:CP w ndb al aa ac)(hF:DB w (.pointer (some (adr f))) f)(hal:al.x.length<=1048576)(hJ:DS w ta ts)(hl:ts.length<=1048576)(hTT:∀T∈TT,En w (.pointer (T[0]?.map adr)) (.pointer (T[1]?.map adr)) (.pointer (T[2]?.map adr)) T/\AG w (Ab adr T))(hfit:Ae al f=true->∀T∈TT,∀t∈ts,t.V T f)(hM:Ag w tb (uv (TT.map (Ab adr))))(hB:Ag w bb (iv B))(htb2:tb≠bb)(hcnt:Ae al f=true->∀T∈TT,ts.all (Ap T f)=true->∃k:Nat,As (Ab adr T) B=(k:Int)/\k<=1000)(hI:K.I w a)(htb:¬K.S tb)(hbb:¬K.S bb)(hSl:∀g,K.S g->g<w.heap.size)(hok:Ae al f=true->∀(pre:List (List F))(T:List F)(af:List (List F))(a':σ),TT.Perm (pre++T::af)->ts.all (Ap T f)=true->As (Ab adr T) B=0->BH K.stp (pre.filter (λT=>ts.all (Ap T f)&&decide (As (Ab adr T) B=0))) a a'->K.ok T a') :
  Ca 319 #[Pn nb,.pointer (some (adr f)),I6 1] w λe w'=>e=.returned (.tuple #[])/\(∃O a',TT.Perm O/\BH K.stp (O.filter (λT=>Ae al f&&(ts.all (Ap T f)&&decide (As (Ab adr T) B=0)))) a a'/\K.I w' a'/\Ag w' bb (iv (Dw adr 1 (O.filter (λT=>Ae al f&&ts.all (Ap T f))) B)))/\Ag w' tb (uv (TT.map (Ab adr)))/\CK w w'/\Av (λg=>g=bb∨K.S g) w w':=by
 have tP:=trivial;exact fX
def wX{σ}(K:CE σ)(adr)(hK:K.aR adr 1)(nb ndb tb bb ng ct up hv ta aa tc ac ts al)(TT:List (List F))(f B a w)(hq:NN w nb ng ct (Pn ndb) up hv ta ts.length tc tb bb)(hH:Hp hv K.fn K.r)(hN:CP w ndb al aa ac)(hF:DB w (.pointer (some (adr f))) f)(hal:al.x.length<=1048576)(hJ:DS w ta ts)(hl:ts.length<=1048576)(hTT:∀T∈TT,En w (.pointer (T[0]?.map adr)) (.pointer (T[1]?.map adr)) (.pointer (T[2]?.map adr)) T/\AG w (Ab adr T))(hfit:Ae al f=true->∀T∈TT,∀t∈ts,t.V T f)(hM:Ag w tb (uv (TT.map (Ab adr))))(hB:Ag w bb (iv B))(htb2:tb≠bb)(hcnt:Ae al f=true->∀T∈TT,ts.all (Ap T f)=true->∃k:Nat,As (Ab adr T) B=(k:Int)+1/\k<=1000)(hI:K.I w a)(htb:¬K.S tb)(hbb:¬K.S bb)(hSl:∀g,K.S g->g<w.heap.size)(hok:Ae al f=true->∀(pre:List (List F))(T:List F)(af:List (List F))(a':σ),TT.Perm (pre++T::af)->ts.all (Ap T f)=true->As (Ab adr T) B=1->BH K.stp (pre.filter (λT=>ts.all (Ap T f)&&decide (As (Ab adr T) B=1))) a a'->K.ok T a') :
  Ca 319 #[Pn nb,.pointer (some (adr f)),I6 (-1)] w λe w'=>e=.returned (.tuple #[])/\(∃O a',TT.Perm O/\BH K.stp (O.filter (λT=>Ae al f&&(ts.all (Ap T f)&&decide (As (Ab adr T) B=1)))) a a'/\K.I w' a'/\Ag w' bb (iv (Dw adr (-1) (O.filter (λT=>Ae al f&&ts.all (Ap T f))) B)))/\Ag w' tb (uv (TT.map (Ab adr)))/\CK w w'/\Av (λg=>g=bb∨K.S g) w w':=by
 exact fX
def zju{P:Program}(w:World)(a:Addr)(m:Mode)(fn:Fn)(x y:Array Value):(store a (.func fn x y) m).run P w=stored P w a (.func fn x y) m:=run_store P w a _ m rfl
attribute [local go_sem] zju
def VZ(a up w)(h:At w a 4 up):Ca 316 #[Pn a] w λe w'=>e=.returned up/\w'=w:=by
 go_enter func316,ntmps316;go_wp2_with fail;exact bodyPost_ret (by simp[results,results316,go_sem]) rfl ⟨rfl,rfl⟩
def zio(d a L w)(h:At w d 5 (.map (some a)))(f:Ag w a (uv L)):Ca 318 #[Pn d] w λe w'=>e=.returned (I6 (L.length:Int))/\w'=w:=by
 have c:=Vn (P:=prog) (ty:=3) EP f;have b:(uv L).length=L.length:=by simp[uv]
 rw[b]at c;simp only[goInt]at c;clear f b;go_enter func318,ntmps318;go_wp2_with fail;exact bodyPost_ret (by simp[results,results318,go_sem]) rfl ⟨rfl,rfl⟩
def Qu(a hv cs t w)(h:w.heap[a]?=some (.cells cs t (0,0)))(f:6<cs.size)(d:∃c cap O,hv=.func c cap O):Ca 317 #[Pn a,hv] w λe w'=>e=.returned (.tuple #[])/\w'.heap[a]?=some (.cells (cs.setIfInBounds 6 hv) t (0,0))/\Bg (some a) w w':=by
 obtain⟨c,cap,O,rfl⟩:=d;have i:At w a 6 cs[6]:=by simp[World.cell?,h,f]
 have g:w.frozen? ⟨a,6,none⟩=false:=by simp[World.frozen?,h]
 have b:=Aa h;clear h;go_enter func317,ntmps317;go_wp2_with fail;exact bodyPost_end (results_none rfl _ _ _) rfl ⟨rfl,Co b.o _,Bg.set _⟩
def Ag.new{w b a}(h:w.heap[b]?=some (.map #[] a)):Ag w b []:=⟨⟨#[],a,h,rfl,Y1,λ_ d=>by cases d⟩,Y1,λ_ c=>by cases c⟩
def Fx(w:World)(o):(w.alloc o).heap.size=w.heap.size+1:=KE _
def NH(w:World)(b O a):(((w.alloc b).alloc O).alloc a).heap[w.heap.size]?=some b/\(((w.alloc b).alloc O).alloc a).heap[w.heap.size+1]?=some O/\(((w.alloc b).alloc O).alloc a).heap[w.heap.size+1+1]?=some a:=by
 simp only[World.alloc,KH,KE];refine⟨?_,?_,?_⟩
 .rw[if_neg qd,if_neg qd,if_pos trivial]
 .rw[if_neg qd,if_pos trivial]
 rw[if_pos trivial]
def Jm(w b O a):Bw w (((w.alloc b).alloc O).alloc a):=(Aj.alloc (by rw[Fx];omega) _).alloc (by rw[Fx,Fx];omega) _
def Jo(w:World)(c O b a):((((w.alloc c).alloc O).alloc b).alloc a).heap[w.heap.size+1]?=some O/\((((w.alloc c).alloc O).alloc b).alloc a).heap[w.heap.size+1+1+1]?=some a:=by
 simp only[World.alloc,KH,KE];refine⟨?_,?_⟩
 .rw[if_neg qd,if_neg qd,if_pos trivial]
 rw[if_pos trivial]
def Jl(w b O a c):Bw w ((((w.alloc b).alloc O).alloc a).alloc c):=(Jm w b O a).alloc (by rw[Fx,Fx,Fx];omega) _
def Jn(w:World)(d O c b a):(((((w.alloc d).alloc O).alloc c).alloc b).alloc a).heap[w.heap.size+1]?=some O/\(((((w.alloc d).alloc O).alloc c).alloc b).alloc a).heap[w.heap.size+1+1+1]?=some b/\(((((w.alloc d).alloc O).alloc c).alloc b).alloc a).heap[w.heap.size+1+1+1+1]?=some a:=by
 simp only[World.alloc,KH,KE];refine⟨?_,?_,?_⟩
 .rw[if_neg qd,if_neg qd,if_neg qd,if_pos trivial]
 .rw[if_neg qd,if_pos trivial]
 rw[if_pos trivial]
def zkR{P:Program}(w:World)(a:Addr)(m:Mode):(store a .nilFunc m).run P w=stored P w a .nilFunc m:=run_store P w a _ m rfl
attribute [local go_sem] zkR
def zll{P:Program}(t:TypeId)(w:World):(Instr.makeMap t none).run P w=.ok (.map (some w.heap.size)) (w.alloc (.map #[] 0)):=by simp[Instr.makeMap]
attribute [local go_sem] zll
def nS(w):Ca 153 #[] w λe w'=>∃cb nb wb,e=.returned (Pn cb)/\w.heap.size<=cb/\w.heap.size<=nb/\w.heap.size<=wb/\nb≠wb/\w'.heap[cb]?=some (.cells #[.map (some nb),.map (some wb)] 263 (0,0))/\Ag w' nb []/\Ag w' wb []/\Bw w w':=by
 go_enter func153,ntmps153;go_wp2_with fail;obtain⟨c,a,b⟩:=NH w (.map #[] 0) (.map #[] 0) (.cells #[.map (some w.heap.size),.map (some (w.heap.size+1))] 263 (0,0));exact bodyPost_ret (by simp[results,results153,go_sem]) rfl ⟨_,_,_,rfl,qd,yu _,qd,qd,b,Ag.new c,Ag.new a,Jm _ _ _ _⟩
def zk3(up f)(at_:Nat)(b n a)(O:up=.nilIface∨∃t v,up=.iface t v)(j:∃p,f=.pointer p)(w):Ca 154 #[.agg #[.bool false,I6 (at_:Int),f,.slice b n a],up] w λe w'=>∃d c,e=.returned (.iface 337 (Pn d))/\w.heap.size<=d/\w.heap.size<=c/\JN w' d (.bool false) f up .nilFunc at_ b n a c/\Ag w' c []/\Bw w w':=by
 obtain⟨p,rfl⟩:=j;rcases O with rfl|⟨t,v,rfl⟩
 focus
  go_enter func154,ntmps154;go_wp2_with fail;obtain⟨i,g⟩:=Jo w (.cells #[.bool false,I6 (at_:Int),.pointer p,.slice b n a] 197 (0,0)) (.map #[] 0) (.cells #[.bool false,I6 (at_:Int),.pointer p,.slice b n a,.nilIface,.map (some (w.heap.size+1)),.nilFunc] 333 (0,0)) (.cells #[.bool false,I6 (at_:Int),.pointer p,.slice b n a,.nilIface,.map (some (w.heap.size+1)),.nilFunc] 339 (0,0))
 rotate_left
 focus
  go_enter func154,ntmps154;go_wp2_with fail;obtain⟨i,g⟩:=Jo w (.cells #[.bool false,I6 (at_:Int),.pointer p,.slice b n a] 197 (0,0)) (.map #[] 0) (.cells #[.bool false,I6 (at_:Int),.pointer p,.slice b n a,.iface t v,.map (some (w.heap.size+1)),.nilFunc] 333 (0,0)) (.cells #[.bool false,I6 (at_:Int),.pointer p,.slice b n a,.iface t v,.map (some (w.heap.size+1)),.nilFunc] 339 (0,0))
 rotate_left
 all_goals
  exact bodyPost_ret (by simp[results,results154,go_sem]) rfl ⟨_,_,rfl,qd,qd,g,Ag.new i,Jl _ _ _ _ _⟩
def zkX(up g)(at_:Nat)(b n a)(l:up=.nilIface∨∃t v,up=.iface t v)(O:∃p,g=.pointer p)(w):Ca 154 #[.agg #[.bool true,I6 (at_:Int),g,.slice b n a],up] w λe w'=>∃f c d,e=.returned (.iface 334 (Pn f))/\w.heap.size<=f/\w.heap.size<=c/\w.heap.size<=d/\c≠d/\NN w' f (.bool true) (I6 (at_:Int)) g up .nilFunc b n a c d/\Ag w' c []/\Ag w' d []/\Bw w w':=by
 obtain⟨p,rfl⟩:=O;rcases l with rfl|⟨t,v,rfl⟩
 focus
  go_enter func154,ntmps154;go_wp2_with fail;obtain⟨k,j,i⟩:=Jn w (.cells #[.bool true,I6 (at_:Int),.pointer p,.slice b n a] 197 (0,0)) (.map #[] 0) (.cells #[.bool true,I6 (at_:Int),.pointer p,.slice b n a,.nilIface,.map (some (w.heap.size+1)),.nilFunc] 333 (0,0)) (.map #[] 0) (.cells #[.bool true,I6 (at_:Int),.pointer p,.slice b n a,.nilIface,.map (some (w.heap.size+1)),.nilFunc,.map (some (w.heap.size+1+1+1))] 336 (0,0))
 rotate_left
 focus
  go_enter func154,ntmps154;go_wp2_with fail;obtain⟨k,j,i⟩:=Jn w (.cells #[.bool true,I6 (at_:Int),.pointer p,.slice b n a] 197 (0,0)) (.map #[] 0) (.cells #[.bool true,I6 (at_:Int),.pointer p,.slice b n a,.iface t v,.map (some (w.heap.size+1)),.nilFunc] 333 (0,0)) (.map #[] 0) (.cells #[.bool true,I6 (at_:Int),.pointer p,.slice b n a,.iface t v,.map (some (w.heap.size+1)),.nilFunc,.map (some (w.heap.size+1+1+1))] 336 (0,0))
 rotate_left
 all_goals
  exact bodyPost_ret (by simp[results,results154,go_sem]) rfl ⟨_,_,_,rfl,qd,qd,qd,qd,i,Ag.new k,Ag.new j,(Jl _ _ _ _ _).alloc (by rw[Fx,Fx,Fx,Fx];omega) _⟩
end
def Ag.same{w w' b L}(h:Ag w b L)(f:w'.heap[b]?=w.heap[b]?)(i:CK w w'):Ag w' b L:=by
 obtain⟨es,a,g,d⟩:=h.N;exact⟨⟨es,a,f.c g,d⟩,h.nd,λy e=>(h.ok y e).O i⟩
def gr(adr:F->Addr)(s:Int)(cb nb wb:Nat):CE (List Kt × List (Kt × Int)) where
 I w a:=CS w cb nb wb a.1 a.2
 S g:=g=nb∨g=wb
 fn:=155
 r:=cb
 ok T a:=(s=1->Ab adr T ∉ a.1) /\ -9<=As (Ab adr T) a.2/\As (Ab adr T) a.2<=9
 stp T a a':=a'=(FN (Ab adr T) s a.1,E8 (Ab adr T) s a.2)
def CS.O{u d cb nb wb T M}(h:CS u cb nb wb T M)(f:Av (λg=>g=nb∨g=wb) u d):CK u d:=λg c t b a=>by
 refine(f.block g (Ak a) (λe=>?_)).c a;rcases e with rfl|rfl
 .exact h.now.aD c t b a
 exact h.ab.aD c t b a
def tu(adr s)(g:s=1∨s = -1)(cb nb wb):(gr adr s cb nb wb).aR adr s:=by
 refine⟨λu f a h c d _=>?_,λu a T h b i=>?_⟩
 .have h:CS u cb nb wb a.1 a.2:=h;exact⟨c _ _ _ _ h.q,h.now.same (d _ h.now.lt (.inl rfl)) c,h.ab.same (d _ h.ab.lt (.inr rfl)) c,h.ne⟩
 have h:CS u cb nb wb a.1 a.2:=h;exact(wn cb nb wb a.1 a.2 (Ab adr T) s u h i g b.1 b.2).j λe f q=>⟨q.1,_,rfl,q.2.1,h.O q.2.2,q.2.2⟩
def Br(adr:F->Addr)(U:List F)(w:World):Prop:=∀f∈U,DB w (.pointer (some (adr f))) f/\A5 w (some (adr f))
def Br.O{adr U u w}(h:Br adr U u)(b:CK u w):Br adr U w:=λf a=>⟨(h f a).1.O b,(h f a).2.O b⟩
def Vp{adr U w}(h:Br adr U w){T:List F}(b:∀f∈T,f∈U)(i:Nat):A5 w (T[i]?.map adr):=by
 cases c:T[i]? with
 |none=>exactλa e=>by cases e
 |some f=>exact(h f (b f (yd c))).2
def Ou{adr U w}(h:Br adr U w){T}(a:∀f∈T,f∈U):AG w (Ab adr T):=⟨Vp h a 0,Vp h a 1,Vp h a 2⟩
def PQ{adr U w}(h:Br adr U w){T}(a:∀f∈T,f∈U)(hl:T.length<=3):En w (.pointer (T[0]?.map adr)) (.pointer (T[1]?.map adr)) (.pointer (T[2]?.map adr)) T:=λi f hi=>by
 have hf:=(h f (a f (yd hi))).1;have O:=(ye.1 hi).1
 match i,hi,O with
 |0,hi,_=>exact⟨_,rfl,O_⟩
 |1,hi,_=>exact⟨_,rfl,O_⟩
 |2,hi,_=>exact⟨_,rfl,O_⟩
 |k+3,_,O=>omega
def G8(adr:F->Addr)(T:List F)(s:Int)(TT:List (List F)):List (List F):=if s=1 then TT++[T] else TT.filter (λU=>decide (Ab adr U≠Ab adr T))
def XX(adr T s TT):(G8 adr T s TT).map (Ab adr)=FN (Ab adr T) s (TT.map (Ab adr)):=by
 unfold G8 FN;split
 .simp
 rw[YV];rfl
structure LN where
 nb:Nat
 bE:Nat
 tb:Nat
 ng:Value
 up:Value
 hv:Value
 N:Nat
 ta:Option Addr
 tc:Nat
 fa:Option Addr
 fc:Nat
 ts:List Jt
structure ME(adr:F->Addr) (U:List F) (d:LN) (fs:List F) (w:World):Prop where
 q:JN w d.nb d.ng (.pointer (some ⟨d.bE,0,none⟩)) d.up d.hv d.N d.ta d.ts.length d.tc d.tb
 nd:w.cell? ⟨d.bE,4,none⟩=some (.slice d.fa fs.length d.fc)
 fp:Ho w d.fa fs adr
 jt:DS w d.ta d.ts
 us:Br adr U w
def ME.O{adr U d fs u w}(h:ME adr U d fs u)(a:CK u w):ME adr U d fs w:=⟨a _ _ _ _ h.q,a.cell h.nd,h.fp.O a,h.jt.O a,h.us.O a⟩
def fQ{σ:Type}(K:CE σ)(adr:F->Addr)(s:Int)(U:List F)(d:LN)(fs:List F):CE (List (List F) × σ) where
 I w a:=ME adr U d fs w/\Ag w d.tb (uv (a.1.map (Ab adr)))/\K.I w a.2
 S g:=g=d.tb∨K.S g
 fn:=325
 r:=d.nb
 ok T a:=T.length=d.N/\(∀f∈T,f∈U)/\(∀f∈fs,∀t∈d.ts,t.V T f)/\(s=1->Ab adr T ∉ a.1.map (Ab adr))/\∀(i:Nat)(f:F)(b:σ),fs[i]?=some f->d.ts.all (Ap T f)=true->BH K.stp (((fs.take i).filter (λf=>d.ts.all (Ap T f))).map (λf=>T++[f])) a.2 b->K.ok (T++[f]) b
 stp T a a':=a'.1=G8 adr T s a.1/\BH K.stp ((fs.filter (λf=>d.ts.all (Ap T f))).map (λf=>T++[f])) a.2 a'.2
def r_{σ}(K:CE σ)(adr s)(W:s=1∨s = -1)(U d fs)(v:K.aR adr s)(y:Hp d.hv K.fn K.r)(hl:d.ts.length<=1048576)(O:fs.length<=1000)(Z:∀f∈fs,f∈U)(af:d.N<3)(i:¬K.S d.tb):(fQ K adr s U d fs).aR adr s:=by
 refine⟨λu t a h m p x=>?_,λu a T h l H=>?_⟩
 .obtain⟨b,c,k⟩:ME adr U d fs u/\Ag u d.tb (uv (a.1.map (Ab adr)))/\K.I u a.2:=h;exact⟨b.O m,c.same (p _ c.lt (.inl rfl)) m,v.1 u t a.2 k m (λg D hS=>p g D (.inr hS)) x⟩
 obtain⟨b,c,k⟩:ME adr U d fs u/\Ag u d.tb (uv (a.1.map (Ab adr)))/\K.I u a.2:=h;obtain⟨E,R,M,G,Y⟩:=l;have n:=b.q;rw[<-E]at n;refine(xf K adr s W v d.nb d.bE d.tb d.ng d.up d.hv d.ta d.fa d.tc d.fc d.ts fs T (a.1.map (Ab adr)) a.2 u n y b.nd b.fp (λf A=>(b.us f (Z f A)).2) b.jt (PQ b.us R qd) hl O M qd c H G k i Y).j λe t q=>?_;obtain⟨w,⟨C,z,B⟩,J,o,L⟩:=q;refine⟨w,(G8 adr T s a.1,C),⟨rfl,z⟩,⟨b.O o,?_,B⟩,o,L⟩;rw[XX];exact J
def Ho.eb{w a fs adr}(h:Ho w a fs adr):JG w a fs:=λi f d=>by
 obtain⟨b,o,e,O,c⟩:=h i f d;exact⟨b,o,_,e,O,c⟩
structure LL where
 nb:Nat
 bE:Nat
 tb:Nat
 bb:Nat
 ng:Value
 ct:Value
 up:Value
 hv:Value
 ta:Option Addr
 tc:Nat
 fa:Option Addr
 fc:Nat
 ts:List Jt
structure MD(adr:F->Addr) (U:List F) (d:LL) (fs:List F) (w:World):Prop where
 q:NN w d.nb d.ng d.ct (.pointer (some ⟨d.bE,0,none⟩)) d.up d.hv d.ta d.ts.length d.tc d.tb d.bb
 nd:w.cell? ⟨d.bE,4,none⟩=some (.slice d.fa fs.length d.fc)
 fp:Ho w d.fa fs adr
 jt:DS w d.ta d.ts
 us:Br adr U w
def MD.O{adr U d fs u w}(h:MD adr U d fs u)(a:CK u w):MD adr U d fs w:=⟨a _ _ _ _ h.q,a.cell h.nd,h.fp.O a,h.jt.O a,h.us.O a⟩
def fO{σ:Type}(K:CE σ)(adr:F->Addr)(s:Int)(U:List F)(d:LL)(fs:List F):CE (List (List F) × List (Kt × Int) × σ) where
 I w a:=MD adr U d fs w/\Ag w d.tb (uv (a.1.map (Ab adr)))/\Ag w d.bb (iv a.2.1)/\K.I w a.2.2
 S g:=g=d.tb∨g=d.bb∨K.S g
 fn:=320
 r:=d.nb
 ok T a:=T.length<=3/\(∀f∈T,f∈U)/\(∀f∈fs,∀t∈d.ts,t.V T f)/\(s=1->Ab adr T ∉ a.1.map (Ab adr)/\(nBar d.ts fs T=0->K.ok T a.2.2))/\(s = -1->0<=As (Ab adr T) a.2.1/\(As (Ab adr T) a.2.1=0->K.ok T a.2.2))
 stp T a a':=a'.1=G8 adr T s a.1/\a'.2.1=Gq (Ab adr T) (if s=1 then(nBar d.ts fs T:Int) else 0) a.2.1/\K.au (if s=1 then nBar d.ts fs T else(As (Ab adr T) a.2.1).toNat) T a.2.2 a'.2.2
def sw{σ}(K:CE σ)(adr s)(Y:s=1∨s = -1)(U d fs)(C:K.aR adr s)(D:Hp d.hv K.fn K.r)(hl:d.ts.length<=1048576)(L:fs.length<=1000)(f:d.tb≠d.bb)(c:¬K.S d.tb)(k:¬K.S d.bb):(fO K adr s U d fs).aR adr s:=by
 refine⟨λu B a h n x H=>?_,λu a T h A G=>?_⟩
 .obtain⟨b,l,i,m⟩:MD adr U d fs u/\Ag u d.tb (uv (a.1.map (Ab adr)))/\Ag u d.bb (iv a.2.1)/\K.I u a.2.2:=h;exact⟨b.O n,l.same (x _ l.lt (.inl rfl)) n,i.same (x _ i.lt (.inr (.inl rfl))) n,C.1 u B a.2.2 m n (λg M hS=>x g M (.inr (.inr hS))) H⟩
 obtain⟨b,l,i,m⟩:MD adr U d fs u/\Ag u d.tb (uv (a.1.map (Ab adr)))/\Ag u d.bb (iv a.2.1)/\K.I u a.2.2:=h;obtain⟨N,W,R,E,Z⟩:=A;rcases Y with rfl|rfl
 .refine(zoX K adr C d.nb d.bE d.tb d.bb d.ng d.ct d.up d.hv d.ta d.fa d.tc d.fc d.ts fs T (a.1.map (Ab adr)) a.2.1 a.2.2 u b.q D b.nd b.fp.eb b.jt (PQ b.us W N) hl L R l i f G (E rfl).1 m c k (E rfl).2).j λe B q=>?_;obtain⟨o,⟨v,p,t⟩,z,w,O,y⟩:=q;refine⟨o,(G8 adr T 1 a.1,Gq (Ab adr T) (nBar d.ts fs T:Int) a.2.1,v),⟨rfl,rfl,p⟩,⟨b.O O,?_,w,t⟩,O,y⟩;rw[XX];exact z
 obtain⟨p1,J⟩:=Z rfl;refine(zn9 K adr C d.nb d.tb d.bb d.ng d.ct (Pn d.bE) (.slice d.ta d.ts.length d.tc) d.up d.hv T (a.1.map (Ab adr)) a.2.1 (As (Ab adr T) a.2.1).toNat a.2.2 u b.q D l i f G qd m c k (λe=>J qd)).j λe B q=>?_;obtain⟨o,⟨v,p,t⟩,z,w,O,y⟩:=q;refine⟨o,(G8 adr T (-1) a.1,Gq (Ab adr T) 0 a.2.1,v),⟨rfl,rfl,p⟩,⟨b.O O,?_,w,t⟩,O,y⟩;rw[XX];exact z
abbrev Ar:=(LN ⊕ LL) × List F
def CQ:List Ar->Type
 |[]=>List Kt × List (Kt × Int)
 |(.inl _,_)::r=>List (List F) × CQ r
 |(.inr _,_)::r=>List (List F) × List (Kt × Int) × CQ r
def Df(adr:F->Addr)(s:Int)(U:List F)(cb nb wb:Nat):(l:List Ar)->CE (CQ l)
 |[]=>gr adr s cb nb wb
 |(.inl d,fs)::r=>fQ (Df adr s U cb nb wb r) adr s U d fs
 |(.inr d,fs)::r=>fO (Df adr s U cb nb wb r) adr s U d fs
def LO(adr:F->Addr)(s:Int)(U:List F)(cb nb wb:Nat):List Ar->Prop
 |[]=>True
 |(.inl d,fs)::r=>Hp d.hv (Df adr s U cb nb wb r).fn (Df adr s U cb nb wb r).r/\d.ts.length<=1048576/\fs.length<=1000/\(∀f∈fs,f∈U)/\d.N<3/\¬(Df adr s U cb nb wb r).S d.tb/\LO adr s U cb nb wb r
 |(.inr d,fs)::r=>Hp d.hv (Df adr s U cb nb wb r).fn (Df adr s U cb nb wb r).r/\d.ts.length<=1048576/\fs.length<=1000/\d.tb≠d.bb/\¬(Df adr s U cb nb wb r).S d.tb/\¬(Df adr s U cb nb wb r).S d.bb/\LO adr s U cb nb wb r
def Ov(adr s)(a:s=1∨s = -1)(U cb nb wb):∀(l:List Ar),LO adr s U cb nb wb l->(Df adr s U cb nb wb l).aR adr s
 |[],_=>tu adr s a cb nb wb
 |(.inl d,fs)::r,⟨h1,h2,h3,h4,h5,h6,h7⟩=>r_ _ adr s a U d fs (Ov adr s a U cb nb wb r h7) h1 h2 h3 h4 h5 h6
 |(.inr d,fs)::r,⟨h1,h2,h3,h4,h5,h6,h7⟩=>sw _ adr s a U d fs (Ov adr s a U cb nb wb r h7) h1 h2 h3 h4 h5 h6
def xK (nb w):Sem.run prog (method 525 337 (Pn nb) "loop.example/s01311/impl.see") w=.ok (324,Pn nb) w:=by kernel_rfl
def xn (nb w):Sem.run prog (method 525 334 (Pn nb) "loop.example/s01311/impl.see") w=.ok (319,Pn nb) w:=by kernel_rfl
def lj (nb w):Sem.run prog (method 525 337 (Pn nb) "loop.example/s01311/impl.above") w=.ok (316,Pn nb) w:=by kernel_rfl
def l5 (nb w):Sem.run prog (method 525 334 (Pn nb) "loop.example/s01311/impl.above") w=.ok (316,Pn nb) w:=by kernel_rfl
def zE (nb w):Sem.run prog (method 525 337 (Pn nb) "loop.example/s01311/impl.remembered") w=.ok (318,Pn nb) w:=by kernel_rfl
def vO (nb w):Sem.run prog (method 525 334 (Pn nb) "loop.example/s01311/impl.remembered") w=.ok (318,Pn nb) w:=by kernel_rfl
def mQ (nb w):Sem.run prog (method 525 337 (Pn nb) "loop.example/s01311/impl.handTo") w=.ok (317,Pn nb) w:=by kernel_rfl
def mJ (nb w):Sem.run prog (method 525 334 (Pn nb) "loop.example/s01311/impl.handTo") w=.ok (317,Pn nb) w:=by kernel_rfl
end Go.Proofs.YtikojfajahnhgaaGreat
