import Derived.Test.YtikojfajahnhgaaGreatKbs
import Derived.Test.YtikojfajahnhgaaGreatKbq
set_option linter.all false
set_option maxHeartbeats 12800000
set_option maxRecDepth 100000
namespace Go.Proofs.YtikojfajahnhgaaGreat
attribute [local simp] At I6 Pn mzI
attribute [local go_sem] At I6 Pn
open Go.RowKit Go.Proofs.Tryz
variable{P:Prop}
section
open Go.Maps
attribute [local go_sem ↓] wp_at_zero wp_at_succ
attribute [local go_sem] Oper.semAt_some
def gC(Z):∀(cs:List Cx)(k:Nat)(T:List F),(∀n:Nat,Z.sa≠(n:Int))->De Z k cs T=BK (cs.map (Ce Z.vw)) T
 |[],_,_,_=>rfl
 |c::cs,k,T,h=>by
  have O:=λT=>gC Z cs (k+1) T h
  have b:Ej Z k c=(Z.vw c.node).2.2:=if_neg (h k)
  have a:Fl Z k c T=true:=if_neg (h k)
  unfold De
  simp only[yq,BK,Ce,b,a,true_and]
  cases c.cp.neg
  .simp only[Yn,if_false,O]
  simp only[if_true,O]
  cases ((Z.vw c.node).2.2.any λf=>c.cp.x.all (Ap T f))<;>rfl
def gU{w}:∀(Q:List (Value × F)),(Q.map Prod.snd).Nodup->(∀y∈Q,DB w y.1 y.2)->∃adr,Q=DU adr (Q.map Prod.snd)
 |[],_,_=>⟨λ_=>⟨0,0,none⟩,rfl⟩
 |(v,f)::Q,hn,hf=>by
  obtain⟨O,j⟩:=y9.1 (show(f::Q.map Prod.snd).Nodup from hn)
  obtain⟨adr,e⟩:=gU Q j (λy hy=>hf y Jc)
  obtain⟨b,o,i,_⟩:=hf (v,f) qe
  have d:v=.pointer (some ⟨b,o,none⟩):=i
  haveI:=Classical.propDecidable
  refine⟨λg=>if g=f then⟨b,o,none⟩ else adr g,?_⟩
  have k:DU (λg=>if g=f then⟨b,o,none⟩ else adr g) (Q.map Prod.snd)=DU adr (Q.map Prod.snd):=Ye λg c=>by
   have a:g≠f:=λq=>O (q▸c)
   simp only[pV,if_neg a]
  show(v,f)::Q=(pV _ f,f)::DU _ (Q.map Prod.snd)
  rw[k,<-e,d]
  simp only[pV,if_pos]
def uN{adr fs}{X:List Cx}{vw ca cc}(O:∀c∈X,gV vw c=fs.filter (Ae c.cp.F))(l:∀c∈X,c.cp.x.length<=6)(g:X.length<=6)(r:fs.length<=40)(p:Dz (X.map (BB fs)) [])(pb n w)(m:w.heap[pb]?=some (.cells #[.slice ca X.length cc,.slice none 0 0] 102 (0,0)))(j:w.heap[pb+1]?=some (.cells #[I6 (-1),.pointer none] 108 (0,0)))(q:∀(k:Nat)(c:Cx),X[k]?=some c->Dp adr vw ca w k c)(o:IG adr fs w) :
  ∃Z:SN,De Z 0 Z.X []=BK (X.map (Ce vw)) []/\SeqStopsK Fence.wide n prog 108 #[Pn pb,Pn (pb+1)] (λx:ES Z=>#[Lp x]) Cl (λys=>ys.map (λy=>y.1)=De Z 0 Z.X []) (λ_=>True) (De Z 0 Z.X []).length w:=by
 have d:∀c∈X,(vw c.node).2.2=fs.filter (Ae c.cp.F):=O;refine⟨⟨adr,fs,0,pb,0,pb+1,0,ca,cc,.slice none 0 0,X,vw, -1,none,l,g,λc a=>?_,λc a f h=>?_,λf e=>qo⟩,gC _ _ _ _ (λn e=>by simp only at e;omega),QT _ n w ⟨m,j,q,o⟩ (Sf _ X 0 [] p (λc a x b=>?_) (λi c _ e=>?_))⟩
 .rw[d c a];exact yh (y8 _ _) qd
 .rw[d c a]at h;exact(yf.1 h).1
 .unfold gZ at b;simp only[d c a]at b;exact yf.1 b
 simp only at e;omega
structure TI(w w1:World) (cb bb M:Nat) (Ds:List Nat) (vp:Array Value) (c0 k:Nat) (W:World):Prop where
 cnt:W.heap[cb]?=some (.cells #[.int .i64 ((c0+k:Nat):Int)] 3 (0,0))
 O:Cl w1 W
 C:Bw w W
 box:W.heap[bb]?=some (.cells vp 102 (0,0))
 aG:NZ w.heap.size Ds W
 low:∀D∈Ds,D<M
def TI.Q{Z w r cb v M p q A}(B:w.heap.size<=M):OwnFrom M (λ(pre:List (ES Z))W=>TI w r cb v M p q A pre.length W):=by
 intro pre W l row h b u;have key:∀k,k<W.heap.size->(k<M∨∃c t f,W.heap[k]?=some (.cells c t f))->l.heap[k]?=W.heap[k]?:=λk s a=>b.block k s (λe=>by
  obtain⟨E,o,z,x⟩:=u k e.y;rcases a with a|⟨c,t,f,a⟩
  .omega
  rw[z]at a;cases a;simp[Obj.isCells]at x)
 have d:CK W l:=λg c t f O=>(key g (Ak O) (.inr ⟨_,_,_,O⟩)).c O;refine⟨d _ _ _ _ h.cnt,h.O.c d.i,⟨b.os.c h.C.os,b.tape.c h.C.tape,b.output.c h.C.output,yh h.C.size b.size,λg n=>(key g (yg n h.C.size) (.inl qd)).c (h.C.block g n)⟩,d _ _ _ _ h.box,⟨h.aG.nodup,λD j=>⟨(h.aG.P D j).1,?_⟩⟩,h.low⟩;have m:=(h.aG.P D j).2;exact(key D ((yj.1 m).1) (.inl (h.low D j))).c m
def TI.round{w p cb f M n o a k W}(h:TI w p cb f M n o a k W)(u:w.heap.size<=cb)(j:f≠cb):TI w p cb f M n o a (k+1) (W.setCell ⟨cb,0,none⟩ (I6 ((a+k:Nat)+1:Int)))/\Cl W (W.setCell ⟨cb,0,none⟩ (I6 ((a+k:Nat)+1:Int))):=by
 have b:Turned W (W.setCell ⟨cb,0,none⟩ (I6 ((a+k:Nat)+1:Int))) cb:=Turned.setCells [_] 0 W cb;have s:=Co (i:=0) h.cnt (I6 ((a+k:Nat)+1:Int));have O:Cl W (W.setCell ⟨cb,0,none⟩ (I6 ((a+k:Nat)+1:Int))):=λg c t v m r=>(b.block g λe=>by
  subst e;rw[h.cnt]at m;cases m;exact r _ _ rfl).c m
 refine⟨⟨?_,h.O.c O,h.C.c (b.d u),(b.block f j).c h.box,⟨h.aG.nodup,λD q=>⟨(h.aG.P D q).1,?_⟩⟩,h.low⟩,O⟩
 .rw[show(a+(k+1):Nat)=(a+k)+1 by omega];simpa using s
 have l:=(h.aG.P D q).2;rw[b.block D (λe=>by subst e;rw[h.cnt]at l;cases l)];exact l
def TI.bH{w g cb e M b d i k W f}(h:TI w g cb e M b d i k W)(a:Bw W f):TI w g cb e M b d i k f:=
 ⟨(a.block _ (Ak h.cnt)).c h.cnt,h.O.c (Cl.m a),h.C.thn a,(a.block _ (Ak h.box)).c h.box,⟨h.aG.nodup,λD O=>⟨(h.aG.P D O).1,(a.block D (yj.1 (h.aG.P D O).2).1).c (h.aG.P D O).2⟩⟩,h.low⟩
def TI.up{w d cb c M M' a b e k W}(h:TI w d cb c M a b e k W)(f:M<=M'):TI w d cb c M' a b e k W:=⟨h.cnt,h.O,h.C,h.box,h.aG,λD O=>yg (h.low D O) f⟩
def NU(r:Ru)(fs:List F)(a_p:Option Addr)(c_p:Nat)(a_e:Option Addr)(c_e:Nat)(a_a:Option Addr)(c_a:Nat)(fa:Option Addr)(fc:Nat)(w w0 w1:World)(cb g xc:Nat)(N:Nat)(a:Act)(W:World):Prop:=∃(i:Nat)(Ds:List Nat)(u6 u7 u8 u9 u16 u17 u18 u19 u20 u21 u22 u23 u24 u25 u26 u27 u28 u29 u30 u31 u32 u33 u34 u35 u36 u37 u38 u39:Value),a={ tmps:=#[Value.agg #[.string r.name,.int .i64 r.W,.slice a_p r.v.length c_p,.slice a_e r.w.length c_e,.slice a_a r.E.length c_a],.slice fa fs.length fc,.pointer (some ⟨w.heap.size,0,none⟩),undef,.int .i64 0,.pointer (some ⟨cb,0,none⟩),u6,u7,u8,u9,Value.agg #[.string r.name,.int .i64 r.W,.slice a_p r.v.length c_p,.slice a_e r.w.length c_e,.slice a_a r.E.length c_a],.slice (some ⟨w0.heap.size,0,none⟩) 1 1,.slice fa fs.length fc,.slice (some ⟨g,0,none⟩) 1 xc,.int .i64 1,.int .i64 (i:Int),u16,u17,u18,u19,u20,u21,u22,u23,u24,u25,u26,u27,u28,u29,u30,u31,u32,u33,u34,u35,u36,u37,u38,u39],defers:=UQ Ds }/\i<=1/\(if i=0 then W=w1/\Ds=[] else W.heap[cb]?=some (.cells #[.int .i64 (N:Int)] 3 (0,0))/\NZ w.heap.size Ds W/\Bw w W)
def NQ(r:Ru)(fs:List F)(a_p:Option Addr)(c_p:Nat)(a_e:Option Addr)(c_e:Nat)(a_a:Option Addr)(c_a:Nat)(fa:Option Addr)(fc:Nat)(w w0 w1:World)(cb g xc:Nat)(bb:Nat)(ca:Option Addr)(cc:Nat)(va:Option Addr)(vc:Nat)(X:List Cx)(U:List Vr)(cnt:Nat->Nat)(u6:Value)(a:Act)(W:World):Prop:=∃(j:Nat)(Ds:List Nat)(u8 u9 u23 u24 u25 u26 u27 u28 u29 u30 u31 u32 u33 u34 u35 u36 u37 u38 u39:Value),a={ tmps:=#[Value.agg #[.string r.name,.int .i64 r.W,.slice a_p r.v.length c_p,.slice a_e r.w.length c_e,.slice a_a r.E.length c_a],.slice fa fs.length fc,.pointer (some ⟨w.heap.size,0,none⟩),undef,.int .i64 0,.pointer (some ⟨cb,0,none⟩),u6,.pointer (some ⟨bb,0,none⟩),u8,u9,Value.agg #[.string r.name,.int .i64 r.W,.slice a_p r.v.length c_p,.slice a_e r.w.length c_e,.slice a_a r.E.length c_a],.slice (some ⟨w0.heap.size,0,none⟩) 1 1,.slice fa fs.length fc,.slice (some ⟨g,0,none⟩) 1 xc,.int .i64 1,.int .i64 0,.bool true,.pointer (some ⟨g,0,none⟩),.agg #[.slice ca X.length cc,.slice va U.length vc],.pointer (some ⟨bb,0,none⟩),.slice ca X.length cc,.int .i64 (X.length:Int),.int .i64 (j:Int),u23,u24,u25,u26,u27,u28,u29,u30,u31,u32,u33,u34,u35,u36,u37,u38,u39],defers:=UQ Ds }/\j<=X.length/\TI w w1 cb bb W.heap.size Ds #[.slice ca X.length cc,.slice va U.length vc] (cnt j) 0 W
def k8{fs}(c:fs.length<=40){a:List Pt}(e:a.length<=6)(k):(AP (a.take k) fs [⟨[],[]⟩] 0).1.length<=41^6:=by
 have b:=VH fs c (a.take k) [⟨[],[]⟩] 0;have d:41^(a.take k).length<=41^6:=Wn qd (by rw[Yt];omega);rw[List.length_singleton,W0]at b;omega
def Ip(r:Ru)(fs:List F)(j:Nat):Nat:=((List.range j).map (λi=>(Ci ((Bm r.v [] 0).take (i+1)) fs []).length)).sum
def ke{r fs}(j):Ip r fs (j+1)=Ip r fs j+(Ci ((Bm r.v [] 0).take (j+1)) fs []).length:=by simp[Ip,KD]
def U4{r fs}(c:Fq r.v [] 0)(b:fs.length<=40)(a:r.v.length<=6):∀j,j<=6->Ip r fs j<=j*41^6
 |0,_=>yk _
 |j+1,hj=>by
  have f:=U4 c b a j qd
  have d:(Ci ((Bm r.v [] 0).take (j+1)) fs []).length<=41^6:=by
   rw[<-Xq c];exact k8 b a (j+1)
  rw[ke];have e:(j+1)*41^6=j*41^6+41^6:=qd;omega
def iA{r fs}(h:Cy [r] fs=true)(a:Fq r.v [] 0):tokM r fs=Ip r fs r.v.length:=by
 unfold tokM;rw[if_pos h,W_ a];rfl
def VU:∀(cs:List Cn)(k:Nat)(T:List F),Dz cs T->Dz (cs.take k) T
 |[],k,T,_=>by rw[List.take_nil];trivial
 |_::_,0,_,_=>trivial
 |c::cs,k+1,T,h=>by
  obtain⟨g,d,e,b⟩:=h
  refine⟨g,d,e,?_⟩
  split at b
  .rename_i a
   rw[if_pos a]
   exact VU cs k T b
  rename_i a
  rw[if_neg a]
  exactλf i hj=>VU cs k _ (b f i hj)
def zlT(r fs a_p c_p a_e c_e a_a c_a fa fc){q}(w)(a5:Ez q w a_p r.v)(bv:Dt q w a_e r.w)(a8:FI q w a_a r.E)(bI:r.w.length<=c_e)(bz:EW Ru.le 1048576 [r])(ho:H_ r.w)(bg:∀p∈r.v,∀t∈p.e,DO t.val)(bm:Bz w fa fs)(hl:fs.length<=1048576)(hs:∀f∈fs,AJ f)(aq:Cy [r] fs=true) :
  Ca 18 #[.agg #[.string r.name,I6 r.W,.slice a_p r.v.length c_p,.slice a_e r.w.length c_e,.slice a_a r.E.length c_a],.slice fa fs.length fc] w λe w'=>e=.returned (I6 (tokM r fs))/\Bw w w':=by
 obtain⟨HR,aF⟩:=Ah (λwt(hb:Bw w wt)k(h:wt.heap[k]?=some (.cells #[.string r.name,I6 r.W,.slice a_p r.v.length c_p,.slice a_e r.w.length c_e,.slice a_a r.E.length c_a] 53 (0,0)))=>zme [r] (some ⟨k,0,none⟩) 1 fs fa fc w wt hb (Fa.one h (a5.d hb).ah (bv.d hb).ah (a8.d hb).ah bI) AH bz (by intro x hx;simp at hx;subst hx;exact ho) (by intro x hx;simp at hx;subst hx;exact bg) bm hl hs aq) aq;clear a5 bv a8 bm hs bz ho bg aq;refine(callsIn_wide (n:=9)).1 ?_;refine callsIn_of_wp_marks func18 rfl trivial ?_ rfl;simp only[ntmps18,K2,yI,Yz,Nat.reduceAdd,Nat.reduceSub,Ky,Kz,K3,KI,yY,Yb];refine wpIn_wide.2 ?_;go_upto_region 2 with fail;refine BF ?_;intro w0 aT bt ay;obtain⟨b0,b1,b2,b3,b4⟩:=DN bt;obtain⟨cb,bj⟩:∃b,b=w.heap.size+1:=⟨_,rfl⟩
 rw[<-bj]at ay⊢;obtain⟨aK,H0⟩:=Ah ay aT;have ce:=aT.size;have bG:w.heap.size<=cb:=qd;have b7:cb<w0.heap.size:=Ak ay;obtain⟨HA,bi⟩:=Ah (λo=>An.alloc AH o:∀o,Bw w0 (w0.alloc o)) (heap_alloc_new w0);clear aT bt ay bj;go_wp2_with fail;refine(HR.o _ (H0.o.c ((HA.o _).j H0.o.size)) _ (bi.o _)).j ?_;rintro e G ⟨bK,aJ⟩;have B1:=Aa (TG (HA.o _) (aJ.j (HA.o _).size));obtain⟨BW,bk⟩:=Ah (H0.o.thn B1.o) ((B1.o.block _ (Ak aK.o)).c aK.o);have ac:=aJ.size;simp at ac;clear aJ b0 b1 b2 b3 b4 aK HA bi HR H0 B1;obtain⟨xa,xc,base,gb,mb,la,lc,L,bs,V,P,Q,rfl,⟨bn,a0⟩,ao,aR,ak,ah⟩:=bK;have bM:([r]:List Ru).length=1:=rfl;rw[bM];go_wp2_with fail;obtain⟨⟨ca,cc,va,vc,X,U⟩,T⟩:∃x,P[0]?=some x:=⟨P[0]'(by rw[bn];simp),qe⟩
 obtain⟨hX,hU⟩:=a0 0 _ r T rfl;simp only at hX hU;have bf:=yd T;obtain⟨g,hg,x0,x1⟩:∃g,xa=some ⟨g,0,none⟩/\At G g 0 (.slice ca X.length cc)/\At G g 1 (.slice va U.length vc):=by
  have aG:=ao.row;obtain⟨g,hg,_,h0,_⟩:=BM aG (FK (cells:=Ht) (m:=2) (λ_=>rfl) P 0 _ 0 _ T rfl);obtain⟨g',a7,_,h1,_⟩:=BM aG (FK (cells:=Ht) (m:=2) (λ_=>rfl) P 0 _ 1 _ T rfl);rw[hg]at a7;cases a7;exact⟨g,hg,qD,qw⟩
 subst hg;have aU:=ao.P _ bf;have bY:X.length<=cc:=L_ aU.conds;obtain⟨aW,aN,am⟩:=Ll aF.o;obtain⟨bp,br,bC⟩:=Mc aW (yp.2 rfl);have bB:Fq r.v [] 0:=MV aW (yp.2 rfl);have b6:X.length<=6:=by
  have h1:=congrArg List.length hX;rw[yt,Na]at h1;omega
 obtain⟨HX,aA,bJ,bW⟩:=Bn hX bB br bC;have bl:fs.Nodup:=(Xh (last:=0) (by simp only[C8,yi]at aN;exact aN.2)).imp λ{x y}h e=>by rw[e]at h;exact Int.lt_irrefl _ h
 obtain⟨adr,hQ⟩:=gU Q (by rw[ak];exact bl) ah;rw[ak]at hQ;have aQ:IG adr fs G:=λf hf=>(ah (pV adr f,f) (by rw[hQ];exact yz.2 ⟨f,hf,rfl⟩)).d BW.o;rw[hQ]at aR;obtain⟨aH,aS⟩:=aU.ek aR aQ (λf hf=>hf);obtain⟨vw,bo⟩:∃vw,vw=Fw L bs V fs:=⟨_,rfl⟩
 rw[<-bo]at aH aS;obtain⟨HUS,HCX,bc⟩:=AA aQ aH aS;clear bn a0 T hX hU bB br bC bf aW aN ao aR aU aQ aH aS bo hQ bl ak ah;obtain⟨cnt,s⟩:∃cnt:Nat->Nat,cnt=Ip r fs:=⟨_,rfl⟩
 have bH:=Aa (show cnt 0=0 by rw[s];rfl);have bO:=Aa (show∀j,cnt (j+1)=cnt j+(Ci ((Bm r.v [] 0).take (j+1)) fs []).length by rw[s];exact ke);have bQ:=Aa (show tokM r fs=cnt X.length by
  have h1:=congrArg List.length HX.o;rw[yt,Na]at h1;rw[iA aF.o aA.o,s,h1])
 obtain⟨bU,bA⟩:=Ah (show∀j,j<=6->cnt j<=j*41^6 by rw[s];exact U4 aA.o am bp) (show∀j,BK ((X.take (j+1)).map (Ce vw)) []=Ci ((Bm r.v [] 0).take (j+1)) fs []/\Dz ((X.take (j+1)).map (BB fs)) [] fromλj=>⟨UZ HX.o bc.o (j+1),by rw[List.map_take];exact VU _ _ _ (i9 HX.o aA.o bW.o fs)⟩);clear s;refine wp_loop (NU r fs a_p c_p a_e c_e a_a c_a fa fc w w0 G cb g xc (cnt X.length)) (λa _=>2-(intOf (a.tmps.getD 15 undef)).toNat) (by unfold NU;exact⟨0,[],_,_,_,_,_,_,_,_,_,_,_,_,_,_,_,_,_,_,_,_,_,_,_,_,_,_,_,_,rfl,qd,by rw[if_pos rfl];exact⟨rfl,rfl⟩⟩) ?_;rintro a W ⟨i,R,u6,u7,u8,u9,u16,u17,u18,u19,u20,u21,u22,u23,u24,u25,u26,u27,u28,u29,u30,u31,u32,u33,u34,u35,u36,u37,u38,u39,rfl,hi,aw⟩;rcases(show i=0∨i=1 by omega) with rfl|rfl
 .rw[if_pos rfl]at aw;obtain⟨a3,rfl⟩:=aw;have a6:=a3.y;clear a3;subst a6;go_upto_region 5 with fail;refine Be ?_;intro w2 ax aB;obtain⟨bb,Y⟩:∃b,b=G.heap.size:=⟨_,rfl⟩
  rw[<-Y]at aB⊢;obtain⟨p0,p1⟩:=Az aB;have bP:=Aa (show TI w G cb bb w2.heap.size [] #[.slice ca X.length cc,.slice va U.length vc] (cnt 0) 0 w2 from⟨by rw[bH.o];exact(ax.block _ (Ak bk.o)).c bk.o,Cl.m ax,BW.o.thn ax,aB,⟨Y1,qe⟩,qe⟩);have bD:bb≠cb:=qd;clear ax aB Y;go_wp2_with fail;clear p0 p1;refine wp_loop (NQ r fs a_p c_p a_e c_e a_a c_a fa fc w w0 G cb g xc bb ca cc va vc X U cnt u6) (λa _=>X.length-(intOf (a.tmps.getD 22 undef)).toNat) (by unfold NQ;exact⟨0,[],_,_,_,_,_,_,_,_,_,_,_,_,_,_,_,_,_,_,_,rfl,yk _,bP.o⟩) ?_;rintro a W2 ⟨j,R,u8,u9,u23,u24,u25,u26,u27,u28,u29,u30,u31,u32,u33,u34,u35,u36,u37,u38,u39,rfl,bZ,aP⟩;have M:=Aa aP;obtain⟨p0,p1⟩:=Az aP.box;clear aP;by_cases hj:j<X.length
  .have z0:(0:Int)<=(j:Int):=qd;have z1:(j:Int)<(X.length:Int):=qd;have z2:(j:Int)+1<=(cc:Int):=qd;have z3:(j:Int)<1000000:=qd;go_upto_region 9 with fail
   refine Be ?_;intro w3 aI aO;obtain⟨tb,aa⟩:∃b,b=W2.heap.size:=⟨_,rfl⟩
   rw[<-aa]at aO⊢;obtain⟨t0,t1⟩:=Az aO;have bq:=Aa (M.o.bH aI);have bX:=M.o.C.size;have b9:=aI.size;clear aI aO aa M p0 p1;go_wp2_with fail;refine wp_region_noPanic ?_;refine wp_region_held_drew (S:=(λw'=>At w' tb 0 (.slice ca (j+1) cc)/\At w' tb 1 (.slice none 0 0))) qg ?_ (λhHeld=>?_)
   ·(try dsimp only);exact⟨t0,t1⟩
   refine sr 0 1 ?_;refine wpAnyH_ready (rs:=[1]) qg qe ?_;refine Yj (ym.c rfl) (λK u=>?_) Yx;go_simp;(go_at_call 58;refine(iB _).j ?_;rintro e' N ⟨rfl,af⟩);(try go_wp2_with fail);refine u.o _ _ (by(try dsimp only);exact⟨zab af t0,zab af t1⟩) λhHeld=>?_;clear u K;(try simp only[pA,pZ,pS,pN]);have bd:=zab af t0;have aZ:=zab af t1;refine wpAnyH_ready (rs:=[2]) qg qe ?_;refine Yj (ym.c rfl) (λK u=>?_) Yx;go_simp;(go_at_call 57;refine(jm _ _ (-1) none ca none (j+1) cc 0 0 rfl rfl N).j ?_;rintro e' w5 ⟨rfl,bR,a9,aC⟩);(try go_wp2_with fail);refine u.o _ _ (by(try dsimp only);exact⟨zab aC bd,zab aC aZ⟩) λhHeld=>?_;clear u K;(try simp only[pA,pZ,pS,pN]);refine wpAnyH_done qg ?_ _;refine Ya ?_;have aM:=Aa (show Bw w3 w5 from An.drew.c ((af.thn aC).j qe));have cd:=aM.o.size;have az:=Aa ((bq.o.bH aM.o).up (M':=w5.heap.size) qd);have b5:N.heap.size+1<w5.heap.size:=Ak a9.o;have b8:w3.heap.size<=N.heap.size:=by have:=af.size;simpa using this
   clear af aC t0 t1 bd aZ bq aM hHeld;have aV:(X.take (j+1)).length=j+1:=by rw[Yt];omega
   obtain⟨Z,au,bh⟩:=uN (adr:=adr) (vw:=vw) (ca:=ca) (cc:=cc) (X:=X.take (j+1)) (fs:=fs) (λc H=>bc.o c (YM H)) (λc H=>(QE r.v [] 0 bJ.o c.cp (by rw[<-HX.o];exact yz.2 ⟨c,YM H,rfl⟩)).1) (by rw[aV];omega) am (bA.o j).2 N.heap.size 8 w5 (by rw[aV];exact bR.o) a9.o (λk c H=>(HCX.o k c (by
    rw[YC]at H;split at H
    .exact H
    cases H)).aT az.o.O) (HUS.o.aT az.o.O)
   rw[(bA.o j).1]at au;have bV:=Aa bh;have aE:(De Z 0 Z.X []).length<=41^6:=by
    rw[au,<-Xq aA.o];exact k8 am bp (j+1)
   have aD:=bU.o j qd;obtain ⟨ab,bE,bL⟩:=AA au aE aD;clear aE aD bh au aV;go_wp2_with fail;refine (wpIn_wide (n:=9)).1 ?_;refine wpIn_rangeFunc_ownF (α:=ES Z) rfl qh (gf:=108) (lb:=#[Pn N.heap.size,Pn (N.heap.size+1)]) rfl trivial (enters_of func108 qg rfl)
    bV.o
    (λh k=>Cl.c h k) (λW l o o' _ h2 h3 _=>(CK.dy h2 h3).i) An (λ_=>rfl)
    (λpre W=>TI w G cb bb w5.heap.size R #[.slice ca X.length cc,.slice va U.length vc] (cnt j) pre.length W) (λ_ _ _=>False) (TI.Q (by have:=az.o.C.size;omega)) (λ_ _ _ _ _ hs _ _=>hs) az.o ?a1 ?assign ?body ?done ?stop
   case assign=>
    intro l x W K u;gi_wp2;exact u
   case body=>
    rintro l pre x W J A;obtain⟨nn,aX⟩:∃n,n=cnt j+pre.length:=⟨_,rfl⟩
    have O:=J.cnt;rw[<-aX]at O;have k0:=AV O;have k1:W.frozen? ⟨cb,0,none⟩=false:=O5;have y0:(0:Int)<=(nn:Int):=qd;have y1:(nn:Int)<100000000000:=by
     have h1:=bE.o;have h2:=bL.o;have h3:j*41^6<=6*41^6:=Yl _ qd;have h4:(41:Nat)^6=4750104241:=qh;rw[h4]at h1 h2 h3;have h5:pre.length<(De Z 0 Z.X []).length:=A;omega
    have aL:=Aa (J.round bG bD);rw[<-aX]at aL;clear O aX J A;gi_wp2;exact⟨KeepsOthers.setCell _ _ _,aL.o.2,by simpa using aL.o.1⟩
   case done=>
    rintro D ys W hD hS J u;obtain⟨z,HK,HS⟩:=AA J u (show ys.length=(Ci ((Bm r.v [] 0).take (j+1)) fs []).length by rw[<-ab.o,<-hS,yt]);clear hS J u;go_wp2_with fail;refine⟨?_,by simp[intOf];omega⟩;unfold NQ;refine⟨j+1,D::R,_,_,_,_,_,_,_,_,_,_,_,_,_,_,_,_,_,_,_,by rw[Ux];rfl,qd,⟨?_,z.o.O,z.o.C,z.o.box,⟨y9.2 ⟨λhm=>?_,z.o.aG.nodup⟩,λD' I=>?_⟩,λD' I=>?_⟩⟩
    .rw[bO.o,<-HS.o];exact z.o.cnt
    .have:=z.o.low D hm;omega
    .rcases yG.1 I with rfl|I
     .exact⟨qd,HK.o⟩
     exact z.o.aG.P D' I
    .rcases yG.1 I with rfl|I
     .exact(yj.1 HK.o).1
     .exact(yj.1 (z.o.aG.P D' I).2).1
   case stop=>
    rintro D c pre W _ _ h _;exact h.elim
  have a4:j=X.length:=qd;have hy:¬(j:Int)<(X.length:Int):=qd;have bT:=Aa a4;clear a4;go_wp2_with fail;refine⟨?_,by simp[intOf]⟩;unfold NU;refine⟨1,R,_,_,_,_,_,_,_,_,_,_,_,_,_,_,_,_,_,_,_,_,_,_,_,_,_,_,_,_,rfl,qd,?_⟩;rw[if_neg qd];refine⟨?_,M.o.aG,M.o.C⟩;have h:=M.o.cnt;rw[bT.o]at h;exact h
 rw[if_neg qd]at aw;obtain⟨bw,aY,bu⟩:=aw;have k0:=AV bw;obtain⟨bN,bF⟩:=Ah aY bu;clear aY bu bw;go_wp2_with fail;rw[bQ.o];refine Sl (B:=w.heap.size) R _ bN.o ?_;intro W' bS;exact⟨_,results_tmp rfl _ _ _,rfl,bF.o.c bS.C⟩
end
section
attribute [local go_sem ↓] wp_at_zero wp_at_succ
def Hj(m:Int):Bool:=decide (m=0)||decide (m=1)
def K1(ms:List Int)(count:Int):Bool:=ms.all Hj&&decide ((ms.length:Int)=count)
def oB(h:P:=by
 go_wp2_with fail;go_roundw
 case rel=>exact⟨k+1,by go_num,by omega,by rw[yZ,HX.o,Zl,HA.o];rfl,trivial⟩
 case measure=>(simp;omega)
 ):=h
def zjl(a c d count){q}(w)(hv:CU q w a d)(hl:d.length<=1048576) :
  Ca 43 #[.slice a d.length c,I6 count] w λe w'=>e=.returned (.bool (K1 d count))/\w'=w:=by
 have g:=Aa hv;clear hv;go_enter func43,ntmps43;go_wp2_with fail
 go_loopw [9] (λiv wr=>∃k:Nat,iv=I6 (k:Int)/\k<=d.length/\(d.take k).all Hj=true/\wr=w) (mz d.length)
 case atStart=>exact⟨0,rfl,yk _,rfl,rfl⟩
 case round=>
  obtain⟨k,rfl,u,O,rfl⟩:=hrel;have HA:=Aa O;clear O;by_cases j:k<d.length
  .obtain⟨m,f⟩:=Ba j;obtain⟨b,o,rfl,_,s⟩:=g.o.get f;have t:(0:Int)<=(k:Int):=qd;have y:(k:Int)<(d.length:Int):=qd;have HX:=Aa f;clear f;by_cases h0:m=0
   .subst h0;exact oB
   by_cases h1:m=1
   .subst h1;exact oB
   have p:(m != 0)=true:=qD;have x:(m != 1)=true:=qw;go_wp2_with fail;have n:K1 d count=false:=by
    have i:d.all Hj=false:=by
     rw[W7];exact⟨m,yd HX.o,by simp[Hj,h0,h1]⟩
    simp[K1,i]
   exact bodyPost_ret (v:=.bool false) (by simp[results,results43,go_sem]) rfl ⟨by rw[n],rfl⟩
  obtain rfl:k=d.length:=qd;have r:¬(d.length:Int)<(d.length:Int):=qd;go_wp2_with fail;have l:K1 d count=decide ((d.length:Int)=count):=by
   have:=HA.o;rw[yV]at this;simp[K1,this]
  rw[l];exact Mn
end
structure Wo where
 u:Int
 tag:Int
 z:ByteArray
 s:List V
def BQ(fs:List F)(nx cp:Int)(sg:Bool)(o:Wo):C6:=if o.u=1 then Dl fs nx cp sg o.z o.s else if o.u=2 then CV fs nx cp sg o.tag else if o.u=3 then BP fs nx cp sg o.tag o.s else C6.ad
def S6{fs nx cp sg}(o)(h:VS fs nx cp sg):Eu fs nx cp sg (BQ fs nx cp sg o):=by
 unfold BQ;split
 .exact wC _ _ h
 split
 .exact xe _ h
 split
 .exact zk _ _ h
 exact .inl rfl
structure Jw(fs:List F) (nx:Int) (o:Wo) (gs K Nw:List F) (nx':Int):Prop where
 eq:gs=K++Nw
 sub:K.Sublist fs
 one:Nw.length<=1
 bK:∀g∈Nw,g.tag=nx/\g.s=o.s/\C4 o.s=true/\(g.z=o.z/\Aq o.z.data.toList=true∨∃f∈fs,f.z=g.z)
 fd:Nw=[]/\nx'=nx∨nx'=nx+1
def nz{k:Int}{p:Prop}(h:k=0)(a:k≠0):p:=absurd h a
def Ng(h:P:=by exact nz (show(_:Int)=0 from O) (by simp)):=h
def mC{fs nx cp sg}(o)(h:VS fs nx cp sg)(O:(BQ fs nx cp sg o).am=0):∃K q,Jw fs nx o (BQ fs nx cp sg o).fs K q (BQ fs nx cp sg o).nx:=by
 have hv:=VS.iff.2 h;have k:¬C6.ad.am=0:=qh;unfold BQ at O⊢;split at O
 .rename_i e;rw[if_pos e];cases a:(B_ fs nx cp sg&&(Aq o.z.data.toList&&C4 o.s))
  .rw[SE a]at O;exact absurd O k
  simp only[yi]at a;obtain⟨v,n,l⟩:=a;rw[Sv v n l]at O⊢;unfold BZ at O⊢;split at O
  .exact Ng
  rename_i c;rw[if_neg c];split at O
  .exact Ng
  rename_i d;rw[if_neg d];split at O
  .exact Ng
  rename_i t;rw[if_neg t];exact⟨fs,[⟨nx,o.z,o.s⟩],rfl,List.Sublist.refl _,qe,λg a=>by rw[yp.1 a];exact⟨rfl,rfl,l,.inl ⟨rfl,n⟩⟩,.inr rfl⟩
 rename_i e;rw[if_neg e];split at O
 .rename_i j;rw[if_pos j];cases b:AD o.tag fs with
  |none=>
   rw[Tc hv b]at O;exact Ng
  |some i=>
   rw[S8 hv b];exact⟨fs.eraseIdx i,[],qe,Wj _ _,qe,λg a=>(by cases a),.inl ⟨rfl,rfl⟩⟩
 rename_i j;rw[if_neg j];split at O
 .rename_i r;rw[if_pos r];cases a:C4 o.s
  .rw[SD (by rw[a,Wg])]at O;exact absurd O k
  cases b:AD o.tag fs with
  |none=>
   rw[S9 hv a b]at O;exact Ng
  |some i=>
   have p:=Ot b;obtain⟨f,m⟩:=Ba p;rw[Ti hv a b m]at O⊢;unfold JH at O⊢;split at O
   .exact Ng
   rename_i c;rw[if_neg c];split at O
   .exact Ng
   rename_i d;rw[if_neg d];exact⟨fs.eraseIdx i,[⟨nx,f.z,o.s⟩],rfl,Wj _ _,qe,λg u=>by rw[yp.1 u];exact⟨rfl,rfl,a,.inr ⟨f,yd m,rfl⟩⟩,.inr rfl⟩
 exact absurd O k
def XB{p}:∀{K fs:List F},K.Sublist fs->(∀f∈K,p f=true)->(fs.Pairwise λf g=>f.tag<g.tag)->(∀f∈fs,p f=true->∃g∈K,g.tag=f.tag)->fs.filter p=K
 |_,_,.slnil,_,_,_=>rfl
 |_,_,.cons a h,hp,hs,hq=>by
  rename_i K fs
  have O:=WZ.1 hs
  have i:¬p a=true:=λe=>by
   obtain⟨g,c,d⟩:=hq a qe e
   have:=O.1 g (h.subset c)
   omega
  rw[yJ i]
  exact XB h hp O.2 (λf b=>hq f (by simp[b]))
 |_,_,.cons_cons a h,hp,hs,hq=>by
  rename_i K fs
  have O:=WZ.1 hs
  rw[yD (hp a qe)]
  congr 1
  refine XB h (λf b=>hp f (by simp[b])) O.2 (λf b e=>?_)
  obtain⟨g,c,d⟩:=hq f (by simp[b]) e
  rcases yG.1 c with rfl|c
  .have:=O.1 f b
   omega
  exact⟨g,c,d⟩
def Jw.stay{fs:List F}{nx:Int}{o:Wo}{gs K c:List F}{nx':Int}(h:Jw fs nx o gs K c nx')(k:fs.Pairwise λf g=>f.tag<g.tag)(hl:∀f∈fs,f.tag<nx):stay fs gs=K/\(gs.filter λg=>!kn fs g)=c:=by
 have l:∀f∈K,kn fs f=true:=λf b=>Si.2 ⟨f,h.sub.subset b,rfl⟩;have d:∀g∈c,kn fs g=false:=λg a=>by
  rw[<-Bool.not_eq_true,Si];rintro⟨f,b,e⟩;have j:=hl f b;have i:=(h.bK g a).1;omega
 constructor
 .unfold Go.Proofs.YtikojfajahnhgaaGreat.stay;refine XB h.sub (λf b=>PZ.2 ⟨f,by rw[h.eq];exact Wp _ b,rfl⟩) k (λf b e=>?_);obtain⟨g,a,O⟩:=PZ.1 e;rw[h.eq]at a;rcases yn.1 a with a|a
  .exact⟨g,a,O⟩
  have j:=hl f b;have i:=(h.bK g a).1;omega
 rw[h.eq,yM,We.2 (λf b=>by simp[l f b]),yY];exact Yk.2 λg a=>by simp[d g a]
def H8(rs:List Ru)(ms:List Int)(fs:List F):Int:=((rs.zip ms).map λy=>Mo y.2 y.1 fs).sum
def LU(fs:List F)(nx cp:Int)(sg:Bool)(o:Wo):List F × Int:=if(BQ fs nx cp sg o).am=0 then((BQ fs nx cp sg o).fs,(BQ fs nx cp sg o).nx) else(fs,nx)
def Bb(cp:Int)(sg:Bool)(os:List Wo):List F × Int:=os.foldl (λs o=>LU s.1 s.2 cp sg o) ([],1)
def Td{cp sg}{a:List Wo}{k o}(h:a[k]?=some o):Bb cp sg (a.take (k+1))=LU (Bb cp sg (a.take k)).1 (Bb cp sg (a.take k)).2 cp sg o:=by
 rw[yZ,h];simp[Bb]
def Hf(rs:List Ru)(ms:List Int)(cp:Int)(sg:Bool)(os:List Wo)(n:Nat):List Int:=(List.range n).map λk=>H8 rs ms (Bb cp sg (os.take (k+1))).1
def PH{cp sg}(b:0<=cp)(O:cp<=40)(a:List Wo):∀k,VS (Bb cp sg (a.take k)).1 (Bb cp sg (a.take k)).2 cp sg
 |0=>⟨b,O,b,rfl,show(1:Int)<=1 by decide,show(1:Int)<=1000001 by decide,λf g=>(by cases g),λ_=>Y1⟩
 |k+1=>by
  have ih:=PH (sg:=sg) b O a k
  cases h:a[k]? with
  |none=>
   have hl:a.length<=k:=qq
   rw[yT hl]at ih
   rw[yT qd]
   exact ih
  |some o=>
   rw[Td h]
   unfold LU
   split
   .rename_i i
    rcases S6 o ih with q|q
    .rw[i]at q
     omega
    obtain⟨c,_,d,e,_⟩:=q
    rw[d,e]at c
    exact c
   exact ih
section
open Go.Maps
attribute [local go_sem ↓] wp_at_zero wp_at_succ
def Jf(nw gb base:Nat)(la:Option Addr)(lc:Nat)(L:List FH)(bs:List Nat)(fb:Nat)(ma:Option Addr)(mc:Nat)(Ms:List MK):NT:=⟨nw,gb,base,base,la,lc,L,bs,fb,ma,mc,Ms,base⟩
def adr0:F->Addr:=λ_=>⟨0,0,none⟩
structure LK(N:NT) (adr:F->Addr) (U fs:List F) (V:List Value) (olds:List (List Kt)) (rs:List Ru) (ms:List Int) (w:World):Prop where
 ok:FD N
 bx:Eg N adr U fs V w
 st:Ck N adr U (N.vw V fs) (λ_=>gV (N.vw V fs)) olds w
 ol:olds.length=N.Ms.length
 len:N.Ms.length=rs.length
 bg:∀(i:Nat)(m:MK)(r:Ru),N.Ms[i]?=some m->rs[i]?=some r->∃d,ms[i]?=some d/\m.X.map Cx.cp=Bm r.v [] 0/\m.aP d
 br:∀(i:Nat)(m:MK)(old:List Kt),N.Ms[i]?=some m->olds[i]?=some old->old.Perm ((BK (m.X.map (Ce (N.vw V fs))) []).map (Ab adr))
def Mg.aE{N:NT}{adr:F->Addr}{U fs:List F}{V:List Value}{a:List (List Kt)}{rs:List Ru}{b:List Int}{P:List Px}{w:World}(h:Mg N adr U fs V a b P w)(O:GJ P rs rs.length)(hl:N.Ms.length=rs.length):LK N adr U fs V a rs b w:=
 ⟨h.ok,h.bx,h.st,h.ol,hl,λi m r j g=>by
  obtain⟨x,d,e,k,c,_,f⟩:=h.bg i m j
  exact⟨d,k,by rw[c];exact(O.2 i x r e g).1,f⟩,h.br⟩
def sK(rs:List Ru)(ms:List Int)(w:World)(e:Ending)(w':World):Prop:=∃(N:NT)(adr:F->Addr)(V:List Value)(olds:List (List Kt)),e=.returned (.pointer (some ⟨N.nw,0,none⟩))/\LK N adr [] [] V olds rs ms w'/\w'.heap[N.fb]?=some (.map #[] 0)/\Bw w w'/\N.base=w.heap.size/\N.B=w.heap.size
def Ik:List Value:=[.func (.func 92) #[] #[],.func (.func 93) #[] #[]]
def ul:(prog.info? 165).map (λi=>(i.zero,i.size,i.bytes))=some (some .nilIface,1,16):=qg
def wY{P:World->Prop}{w:World}{b:Nat}{t:TypeId}{x0 x1 c a:Value}(O:w.heap[b]?=some (.cells #[x0,x1,c] t (0,0)))(h:∀wt,wt.heap[b]?=some (.cells #[x0,x1,a] t (0,0))->Turned w wt b->P wt):P (w.setCell ⟨b,2,none⟩ a):=h _ (by have:=Co (i:=2) O a;simpa using this) (Turned.setCells [a] 2 w b)
def sq:(prog.info? 163).map (·.size)=some 2:=qg
def xi:∀v∈Ik,v.oneCell'=true:=by
 intro v hv;simp only[Ik,yG,YF,or_false]at hv;rcases hv with rfl|rfl<;>rfl
def oG(h:P:=by injection this with this;injection this with _ this;exact absurd this (by decide)):=h
def zn3(rs:List Ru)(Z:List Int)(a:Option Addr)(c:Nat)(am:Option Addr)(cm:Nat){q q':Option Nat}(w:World)(hv:Fa q w a rs)(b7:EW Ru.le 1048576 rs)(cF:∀r∈rs,∀p∈r.v,∀t∈p.e,DO t.val)(bg:(A8 rs).1=0)(cW:CU q' w am Z)(cN:Z.all Hj=true)(cZ:Z.length=rs.length) :
  Ca 44 #[.slice a rs.length c,.slice am Z.length cm,.slice none 0 0] w (sK rs Z w):=by
 obtain⟨kl,K⟩:=LM.bD;obtain⟨HV,dM,dO,dg⟩:=Bn hv b7 cF cW;have dU:=(Qa bg).1;obtain⟨dh,dq,ds,cM⟩:=Bn (λr(hr:r∈rs)=>Mc bg hr) bg cN cZ;have dG:=nC (P:=prog) 156;clear hv b7 cF cW bg cN cZ;go_enter func44,ntmps44;go_wp2_with fail;refine(mu kl w).rtn λw3⟨bo,bO⟩=>?_;obtain⟨G3,B3⟩:=Ah bo bO;have dL:=bO.size;clear bo bO;go_upto_region 2 with fail;refine Be ?_;intro n O af;have hA:Bw w3 (w3.alloc (.map #[] 0)):=Aj;have hz:(w3.alloc (.map #[] 0)).heap.size=w3.heap.size+1:=qe;unfold Bw at O;rw[hz]at af O;have bG:n.heap[w3.heap.size]?=some (.map #[] 0):=(O.block _ qd).c (heap_alloc_new w3 _);have hW:Bw w3 n:=hA.c (O.j qd);obtain⟨N,B5⟩:=Ah (G3.o.C hW) (B3.o.thn hW);have dA:w3.heap.size+1<n.heap.size:=Ak af;obtain⟨s,cL⟩:∃s,s=w3.heap.size+1:=⟨_,rfl⟩
 obtain⟨z,ci⟩:∃z,z=w3.heap.size:=⟨_,rfl⟩
 obtain⟨I,cX⟩:∃I,I=w.heap.size+1:=⟨_,rfl⟩
 obtain⟨base,bt⟩:∃v,v=w.heap.size:=⟨_,rfl⟩
 rw[<-cL]at af dA⊢;rw[<-ci]at af bG;rw[<-cX]at af N;have d6:base<=I:=qd;have bQ:Hid (NS kl n base I base none 0 [] [] (.map [])):=by rw[bt];exact N.o
 obtain⟨Q5,M5⟩:=Ah af bG;have ai:w.heap.size<=base:=qd;have bW:base<=n.heap.size:=by have:=B5.o.size;omega
 have dB:base<=s:=by have:=B3.o.size;omega
 have dx:base<=z:=by have:=B3.o.size;omega
 have c8:z≠base:=by have:=G3.o.map.lt;omega
 have b4:=Aa bt;clear hA hz bG hW O af N G3 B3 cL ci cX bt dG dL;go_wp2_with fail
 go_loopw [22,8] (λiv pv wr=>∃(k:Nat)(pa:Option Addr)(pc:Nat)(P:List Px)(la:Option Addr)(lc:Nat)(L:List FH)(T:List Nat)(D:DataW Unit),iv=I6 (k:Int)/\pv=.slice pa P.length pc/\k<=rs.length/\P.length<=k/\GJ P rs k/\L.length<=6*k/\(∀x∈L,x.1.x.length<=6)/\NS kl wr base I base la lc L T D/\Fo wr base pa pc P (L.map Prod.fst) T/\Bw w wr/\base<=wr.heap.size/\wr.heap[s]?=some (.cells #[Pn I,.map (some z),.slice none 0 0] 159 (0,0))/\wr.heap[z]?=some (.map #[] 0)) (λiv _ _=>rs.length-(intOf iv).toNat)
 case atStart=>exact⟨0,none,0,[],none,0,[],[],_,rfl,rfl,yk _,yu _,⟨rfl,λi x r hx=>qB⟩,yu _,λx hx=>qB,bQ.o,⟨yN _ _ _ _,λx hx=>qB⟩,B5.o,bW,Q5.o,M5.o⟩
 case round=>
  obtain⟨k,pa,pc,P,la,lc,L,T,D,rfl,rfl,dz,dV,bS,dY,bl,cV,bm,hB,b5,hQ,cn⟩:=hrel;obtain⟨PX,ch,G,PL,B,QN,R⟩:=Jj bS bl cV bm hB hQ cn;clear bS bl cV bm hB hQ cn bQ B5 Q5 M5;by_cases hk:k<rs.length
  .obtain⟨r,hr⟩:=Ba hk;obtain⟨rb,ro,a_p,c_p,a_e,c_e,aM,aI,rfl,_,c0,c1,c2,c3,c4,bV,_,_,_⟩:=HV.o.get hr;have d0:=zab B.o c0;have d1:=zab B.o c1;have d2:=zab B.o c2;have d3:=zab B.o c3;have d4:=zab B.o c4;have bd:=yd hr;obtain⟨dr,cI,_⟩:=dh.o r bd;obtain⟨cr,HR⟩:=Ah (λw'(hN:NS kl w' base I base la lc L T D)(hA:Bw w w')(hb:base<=w'.heap.size)=>mY kl K r a_p c_p a_e c_e aM aI base I base la lc L T D w w' hA ai hb bV hN dr cI (dM.o.2 r bd).2.1.2 (dO.o r bd) qd ch.o) hr;have z0:(0:Int)<=(k:Int):=qd;have z1:(k:Int)<(rs.length:Int):=qd;clear c0 c1 c2 c3 c4 bV hr cI bd;go_upto_region 6 with fail;refine Be ?_;intro n O af;have y0:At n wr.heap.size 0 (.string r.name):=qE;have y1:At n wr.heap.size 1 (I6 r.W):=qE;have y2:At n wr.heap.size 2 (.slice a_p r.v.length c_p):=qE;have y3:At n wr.heap.size 3 (.slice a_e r.w.length c_e):=qE;have y4:At n wr.heap.size 4 (.slice aM r.E.length aI):=qE;obtain⟨aE,aV⟩:=Ah ((O.block _ (Ak QN.o)).c QN.o) ((O.block _ (yj.1 R.o).1).c R.o);have q0:=AS (L:=[_,_,_]) aE.o (j:=0) rfl;obtain⟨N,dC,B5⟩:=AA (G.o.C O) (PL.o.C O) (B.o.thn O);have dS:=O.size;have cz:base<=n.heap.size:=qd;have aN:=Aa af;clear O af d0 d1 d2 d3 d4 G PL B QN R;have bv:Bw n n.drew:=An.drew;obtain⟨az,bh,bP⟩:=AA (N.o.C bv) (dC.o.C bv) (B5.o.thn bv);refine wp_region_noPanic ?_;refine wp_region_held_drew (S:=(λu=>At u wr.heap.size 0 (.string r.name)/\At u wr.heap.size 1 (I6 r.W)/\At u wr.heap.size 2 (.slice a_p r.v.length c_p)/\At u wr.heap.size 3 (.slice a_e r.w.length c_e)/\At u wr.heap.size 4 (.slice aM r.E.length aI)/\At u s 0 (Pn I))) qg ?_ (λhHeld=>?_)
   ·(try dsimp only);exact⟨y0,y1,y2,y3,y4,q0⟩
   refine sr 0 6 ?_;refine r1 6 λK hK=>?_;go_simp;refine(cr.o n.drew az.o bP.o cz).j ?_;rintro e J ⟨ag,al,L',ad,D',ca,cc,va,vc,X,rfl,hX,cR,ay,ao,_,bU,bk,dR,h6⟩;obtain⟨aP,G6,dQ,dw,EX,dk,HX,H6⟩:=Up (ao.Q bh.o.row az.o qh qh) cR (ay.lower (show base<=n.drew.heap.size from cz)) ao bU bk hX h6;have d5:n.heap.size<=J.heap.size:=ao.rest.size;have dj:base<=J.heap.size:=qd;have aS:∀k cs t,n.heap[k]?=some (.cells cs t (0,0))->t≠194->(Value.slice la L.length lc).ownBlock≠some k:=λk cs t hk ht e=>by
    obtain⟨c',ah⟩:=AO N.o.row e;exact Cf hk ah ht
   have aU:J.heap[s]?=some (.cells #[Pn I,.map (some z),.slice none 0 0] 159 (0,0)):=by
    have hl:=Ak aE.o;obtain⟨es,cl,aT⟩:=ID N.o.map;refine(ao.block s hl (λe=>?_) (λe=>?_) (aS s _ _ aE.o qh)).c aE.o
    .have:=N.o.box;unfold GB at this;rw[<-e,aE.o]at this;exact oG
    rw[<-e,aE.o]at aT;cases aT
   have aL:J.heap[wr.heap.size]?=some (.cells #[.string r.name,I6 r.W,.slice a_p r.v.length c_p,.slice a_e r.w.length c_e,.slice aM r.E.length aI] 53 (0,0)):=by
    obtain⟨es,cl,aT⟩:=ID N.o.map;refine(ao.block _ (Ak aN.o) (λe=>?_) (λe=>?_) (aS _ _ _ aN.o qh)).c aN.o
    .have:=N.o.box;unfold GB at this;rw[<-e,aN.o]at this;exact oG
    rw[<-e,aN.o]at aT;cases aT
   have hS:∀u:World,u.heap[s]?=J.heap[s]?->u.heap[wr.heap.size]?=J.heap[wr.heap.size]?->(At u wr.heap.size 0 (.string r.name)/\At u wr.heap.size 1 (I6 r.W)/\At u wr.heap.size 2 (.slice a_p r.v.length c_p)/\At u wr.heap.size 3 (.slice a_e r.w.length c_e)/\At u wr.heap.size 4 (.slice aM r.E.length aI)/\At u s 0 (Pn I)):=λu Y h2=>by
    have k1:=Y.c aU;have k2:=h2.c aL;obtain⟨x0,x1,x2,x3,x4⟩:=DN k2;exact⟨x0,x1,x2,x3,x4,AS (L:=[_,_,_]) k1 (j:=0) rfl⟩
   have B6:=Aa (bP.o.c (ao.d bP.o.size (yh ai az.o.aW.1) (yh ai az.o.aW.2) (λg hg=>yh ai (az.o.row.lt g hg).1)));have br:J.heap[z]?=some (.map #[] 0):=by
    refine(ao.block z (yj.1 aV.o).1 (λe=>?_) (λe=>c8 e) (λe=>?_)).c aV.o
    .have:=N.o.box;unfold GB at this;rw[<-e,aV.o]at this;cases this
    obtain⟨c',ah⟩:=AO N.o.row e;rw[aV.o]at ah;cases ah
   obtain⟨bN,bA,bM,bu,M⟩:=DE br hS aU aL (λo=>An.alloc AH o:∀o,Bw J (J.alloc o));have TY:=Aa (λo g hg=>AO (AF aP.o (M.o o)) (k:=g) hg);clear hX cR ay ao bU bk h6 y0 y1 y2 y3 y4 q0 cr aU aL hS aS br;(try go_wp2_with fail);refine hK.o _ _ ?hS1 (λa5=>?_)
   case hS1=>exact bA.o _ rfl rfl
   clear hK K hHeld;(try simp only[pA,pZ,pS,pN]);refine r1 7 λK hK=>?_;go_simp;refine hK.o _ _ ?hS2 (λa4=>?_)
   case hS2=>exact bA.o _ ((M.o _).block _ (Ak bM.o)) ((M.o _).block _ (Ak bu.o))
   clear hK K a5;(try simp only[pA,pZ,pS,pN]);refine r1 8 λK hK=>?_;refine Hd qi (.tmp 26) (.tmp 33) 97 qi base 102 _ 2 48 underlying97 gK qi qd _ P.length _ qi (AF aP.o (M.o _)) (some ⟨_,0,none⟩) 1 1 qi (Ht ⟨ca,cc,va,vc,X,DL r.v [] 0⟩) qi (λe=>qo) (Cv _ _ _ _ qG) (gQ _) qj qd (yh dj (M.o _).size) ?_;intro a7 c7 w7 aa A ae;have da:=A.o.size;simp at da;have aO:∀(k:Nat)(cs:Array Value)(t:TypeId),J.heap[k]?=some (.cells cs t (0,0))->t≠102->w7.heap[k]?=some (.cells cs t (0,0)):=λk cs t hk ht=>by
    have aK:=Ak hk;refine(A.o.block k (yg aK (M.o _).size) (λe=>?_)).c (((M.o _).block k aK).c hk);obtain⟨c',ah⟩:=AO aP.o e.y;exact Cf hk ah ht
   have bY:=Aa (aO _ _ _ bM.o qh);have dH:=Aa (aO _ _ _ bu.o qh);have df:=Aa (show w7.heap[z]?=some (.map #[] 0) from by
    have aK:=(yj.1 bN.o).1;refine(A.o.block z (yg aK (M.o _).size) (λe=>?_)).c (((M.o _).block z aK).c bN.o);obtain⟨c',ah⟩:=AO aP.o e.y;rw[bN.o]at ah;cases ah)
   obtain⟨dE,G7,B7,dd⟩:=Bn (bh.o.push (x:=⟨ca,cc,va,vc,X,DL r.v [] 0⟩) az.o dw.o EX.o dk.o dQ.o A.o aa.o) ((G6.o.C (M.o _)).grown A.o (TY.o _) qY) ((B6.o.c ((M.o _).j B6.o.size)).grown A.o (yh B6.o.size (M.o _).size) (λg hg=>yh ai (aP.o.lt g hg).1)) (PX.o.snoc (x:=⟨ca,cc,va,vc,X,DL r.v [] 0⟩) HR.o HX.o rfl);have cP:base<=w7.heap.size:=qd;refine hK.o _ _ ?hS3 (λa6=>?_)
   case hS3=>exact bA.o _ (bY.o.c bM.o.y) (dH.o.c bu.o.y)
   clear hK K a4 ae aa A aO;(try simp only[pA,pZ,pS,pN]);refine tk 9 a6 ?_;(try simp only[pA,pZ,pS]);refine wpAnyH_done qg ?_ _;refine Ya ?_;go_wp2_with fail;go_roundw
   case rel=>exact⟨k+1,a7,c7,P++[⟨ca,cc,va,vc,X,DL r.v [] 0⟩],ag,al,L',ad,D',qm,qe,qd,qf,dd.o,qd,H6.o,G7.o,dE.o,B7.o,cP,bY.o,df.o⟩
   case measure=>(simp[intOf];omega)
  obtain rfl:k=rs.length:=qd;have hy:¬(rs.length:Int)<(rs.length:Int):=qd;have bJ:=Aa (NF.dw G.o);obtain⟨wQ,cJ⟩:∃v,v=wr:=⟨wr,rfl⟩
  rw[<-cJ]at bJ PL B QN R b5⊢;clear G cJ;go_wp2_with fail
  go_loopw [38] (λiv wr=>iv=I6 0/\wr=wQ) (λ_ _=>0)
  case atStart=>exact⟨rfl,rfl⟩
  case round=>
   obtain⟨rfl,rfl⟩:=hrel;go_upto_region 15 with(first|(refine C7 qi 163 (.tmp 12) (.tmp 62) qi wr.heap.size Ik qi qi _ 163 (EA _ _ _ rfl) qi sq xi ?_;intro w8 cG ac)|fail);have ar:Bw wr w8:=Aj.c (ac.o.d AH);obtain⟨bR,B8,b0⟩:=AA (PL.o.C ar) (B.o.thn ar) ((ar.block _ (yj.1 R.o).1).c R.o);have dl:L.length<=1000:=qd;have bT:base<=w8.heap.size:=yh b5 ar.size;obtain⟨cv,bw⟩:=Ah (show Mg (Jf s I base la lc L T z none 0 []) adr0 [] [] (List.replicate L.length (.slice none 0 0)) [] Z P w8 from⟨⟨λm hm=>(by cases hm),λi j m m' Y=>(by simp[Jf]at Y),λm hm=>(by cases hm),λx hx=>yh (ch.o x hx) qd,dl,yk _,λm hm=>(by cases hm),dx⟩,⟨(ar.block _ (Ak QN.o)).c QN.o,bJ.o.C ar,yN _ _ _ _,λm hm=>(by cases hm),λf hf=>Hx,bT⟩,λi m old Y=>(by simp[Jf]at Y),rfl,λi m Y=>(by simp[Jf]at Y),λi m old Y=>(by simp[Jf]at Y)⟩) cG.o;obtain⟨ab,cK⟩:∃ab,ab=wr.heap.size:=⟨_,rfl⟩
   rw[<-cK]at bw⊢;have cw:P.length=rs.length:=PX.o.1;have cU:=Aa cw;clear cK ar cG ac bJ PL B QN R cw;go_wp2_with fail
   go_loopw [65] (λiv wr=>∃(ma:Option Addr)(mc:Nat)(Ms:List MK)(H:List (List Kt)),iv=I6 (Ms.length:Int)/\Ms.length<=P.length/\Mg (Jf s I base la lc L T z ma mc Ms) adr0 [] [] (List.replicate L.length (.slice none 0 0)) H Z P wr/\Fo wr base pa pc P (L.map Prod.fst) T/\wr.heap[z]?=some (.map #[] 0)/\wr.heap[ab]?=some (.cells Ik.toArray 163 (0,0))/\Bw w wr) (λiv _=>P.length-(intOf iv).toNat)
   case atStart=>exact⟨none,0,[],[],rfl,yk _,cv.o,bR.o,b0.o,bw.o,B8.o⟩
   case round=>
    obtain⟨ma,mc,Ms,H,rfl,dz,cQ,b9,cC,cS,hB⟩:=hrel;obtain⟨MG,PL,R,AB,B⟩:=DE cQ b9 cC cS hB;clear cQ b9 cC cS hB cv bR b0 bw B8;by_cases hk:Ms.length<P.length
    .obtain⟨x,hx⟩:∃x,P[Ms.length]?=some x:=⟨P[Ms.length],Jb⟩
     have cy:Ms.length<rs.length:=by rw[<-cU.o];exact hk
     obtain⟨r,hr⟩:∃r,rs[Ms.length]?=some r:=⟨rs[Ms.length],by simp[cy]⟩
     obtain⟨d,hd⟩:∃d,Z[Ms.length]?=some d:=⟨Z[Ms.length]'(by rw[cM.o];exact cy),qe⟩
     obtain⟨xX,xU⟩:=PX.o.2 _ x r hx hr;have bn:=Sb dq.o (yd hr) xX;have ay:=PL.o.P x (yd hx);obtain⟨p1,p2⟩:=ay.aI (m:=.inr ⟨x.X,x.ca,0,none,0,0,0,0,0,0⟩) (U:=[]) (fs:=[]) MG.o.bx.nf MG.o.bx.us.G (λf hf=>hf);have cY:=gG (U:=[]) (fs:=[]) p2 (λf hf=>hf) Y1 qe;have aZ:Bs adr0 []:=λf hf=>by cases hf
     have key:=λj u(hj:(Ht x)[j]?=some u)=>BM PL.o.row (FK (cells:=Ht) (m:=2) (λ_=>rfl) P Ms.length x j u hx hj);obtain⟨pb,cO,_,h0,_⟩:=key 0 _ rfl;obtain⟨dT,aG,_,Y,_⟩:=key 1 _ rfl;rw[cO]at aG;injection aG with aG;injection aG with aG;subst aG;obtain⟨aH,aC,aD,aF,aA,aB⟩:=x;obtain⟨d7,dF,bK,bE,cD,dp,HD⟩:=Jj xX ay cY p1 bn hx hd;obtain⟨cu,mo,dN,_,m0⟩:=dg.o.get hd;subst dN;subst cO;have cd:=zab B.o m0;have dt:d=0∨d=1:=by
      have:=Yy.1 ds.o d (yd hd);simpa[Hj] using this
     have z0:(0:Int)<=(Ms.length:Int):=qd;have z1:(Ms.length:Int)<(P.length:Int):=qd;have z2:(Ms.length:Int)<(Z.length:Int):=by rw[cM.o];omega
     have cH:Ms.length<1000:=qd;have f0:=AS (L:=Ik) AB.o (j:=0) rfl;have f1:=AS (L:=Ik) AB.o (j:=1) rfl;simp only[KJ]at h0;clear xX ay cY p1 p2 bn hx hd hr xU m0 key;have dK:Ht ⟨aH,aC,aD,aF,aA,aB⟩=[.slice aH aA.length aC,.slice aD aB.length aF]:=rfl;clear dK;go_upto_region 18 with fail;refine Be ?_;intro n O af;have dX:=Aa O;obtain⟨y0,y1⟩:=Az af;have g0:=zab O f0;have g1:=zab O f1;have gm:=zab O cd;have cT:Bw wr n.drew:=O.drew;have aX:=Aa cT;have an:=O.size;clear O af f0 f1 cd h0 Y cT;rcases dt with rfl|rfl
     focus
      have a0:=Aa (λ(u:World)(hb:Bw wr u)=>zkL aA adr0 [] (Fw L T (List.replicate L.length (.slice none 0 0)) []) aH aC aD aB.length aF cD.o bK.o aZ u (bE.o.O (CK.m hb)).cx (λf hf=>Hx))
      go_region_held3 (λu=>At u cu (mo+Ms.length) (I6 0)/\At u ab 0 (.func (.func 92) #[] #[])/\At u wr.heap.size 0 (.slice aH aA.length aC)/\At u wr.heap.size 1 (.slice aD aB.length aF))
       ((go_split_ands;first|done|(refine⟨?_,?_,?_,?_⟩<;>first|assumption|with_reducible exact zab aQ qk|exact zab An.drew qk)))
       (first|(go_at_call 92;refine(a0.o _ aX.o).j ?_;rintro e J ⟨m,rfl,aW,bF,a8,bL,aJ,bD,aQ⟩)|fail)
     rotate_left
     focus
      have a0:=Aa (λ(u:World)(hb:Bw wr u)=>zjZ aA adr0 [] (Fw L T (List.replicate L.length (.slice none 0 0)) []) aH aC aD aB.length aF cD.o bK.o aZ u (bE.o.O (CK.m hb)).cx (bE.o.O (CK.m hb)).nd (λf hf=>Hx))
      go_region_held3 (λu=>At u cu (mo+Ms.length) (I6 1)/\At u ab 1 (.func (.func 93) #[] #[])/\At u wr.heap.size 0 (.slice aH aA.length aC)/\At u wr.heap.size 1 (.slice aD aB.length aF))
       ((go_split_ands;first|done|(refine⟨?_,?_,?_,?_⟩<;>first|assumption|with_reducible exact zab aQ qk|exact zab An.drew qk)))
       (first|(go_at_call 93;refine(a0.o _ aX.o).j ?_;rintro e J ⟨m,rfl,aW,bF,a8,bL,aJ,bD,aQ⟩)|fail)
     rotate_left
     all_goals
      obtain⟨cB,du,de,dD,di,dZ,cE,bz,bC⟩:=LA (aX.o.thn aQ) aW bF a8 bL aJ (λg q=>yh aX.o.size (bD g q):∀g,m.S g->wr.heap.size<=g) (Xw m aJ) (nR m adr0 [] _ [] J aJ a8 aZ (by rw[aW];exact bK.o));clear aW bF a8 bL aJ bD aQ a0 y0 y1 g0 g1 gm;obtain⟨dW,bq⟩:∃b,b=m.cb:=⟨_,rfl⟩
      rw[<-bq]at bz bC;clear bq;rw[MK.bU m];have q1:=λu=>UV m u;have q2:=Vz m;go_wp2_with fail;refine bz.o.rtn λw7 dJ=>?_;subst dJ;go_wp2_with fail;refine bC.o.rtn λw8⟨⟨K,b6,cA⟩,co,aR⟩=>?_;obtain⟨dy,dI,cj⟩:=AA b6 cA aR;have ak:Bw wr w8:=Av.aO cB.o aR cE.o;obtain⟨ce,a3,bc⟩:=AA ak ((ak.block _ (Ak MG.o.bx.box)).c MG.o.bx.box) (AF MG.o.bx.row ak);have bi:=AS (L:=[_,_,_]) a3.o (j:=2) rfl;have cg:w8.frozen? ⟨s,2,none⟩=false:=by have:=a3.o;simp only[Jf]at this;simp[World.frozen?,this]
      have bB:=ak.size;have aq:=Aa (λo=>An.alloc AH o:∀o,Bw w8 (w8.alloc o));have ap:base<=w8.heap.size:=yh MG.o.bx.hb bB;simp only[Jf]at bi;have dv:=Aa (MK.bU m);clear b6 cA co aR ak bz bC q1 q2;go_upto_region 21 with(first|(at_builtin;refine CN qi (.tmp 85) (.tmp 87) 157 qi base 165 _ 1 16 underlying157 ul qi qd _ Ms.length _ qi (AF bc.o (aq.o _)) (some ⟨_,0,none⟩) 1 1 qi [.iface m.dH m.ptr] qi (λe=>qo) (Cv _ _ _ _ qG) (by intro u hu;rw[yp.1 hu];rfl) qj qd qf ?_;intro a9 c9 w9 bH bf dc;have aj:=Aa (Ef ((aq.o _).block _ (Ak a3.o) |>.c a3.o) bf.o (λk hk=>AO (AF bc.o (aq.o _)) hk) qh);have bj:=AS (L:=[_,_,_]) aj.o (j:=2) rfl;have cf:w9.frozen? ⟨s,2,none⟩=false:=(by have:=aj.o;simp only[Jf]at this;simp[World.frozen?,this]);simp only[Jf]at bj)|fail);refine wY aj.o ?_;intro aY bp ax;have bI:Ey w8 aY:=((Ey.m (aq.o _)).c (Ey.ai bf.o (λk hk=>AO (AF bc.o (aq.o _)) hk))).c (Ey.bh ax aj.o);have aw:aY.ownsRow base 165 1 (.slice a9 (Ms.length+1) c9) (Ms.length+1) (Ms.map MK.val++[m.val]):=by
       rw[dv.o];refine Bv bH.o λk hk=>ax.block k λe=>?_;obtain⟨c',ah⟩:=AO bH.o hk;subst e;exact Cf ah aj.o qh
      have b8:=Aa (MG.o.more (Gh.mk aZ (λf hf=>hf) Y1 qe) (yj.1 R.o).1 dp.o HD.o cH dF.o du.o de.o dD.o di.o cE.o cB.o dI.o dy.o cj.o bI bp aw);have au:Ey wr aY:=(Ey.m ce.o).c bI;obtain⟨bX,bZ,cq,dP⟩:=Bn (PL.o.fm au) (au.maps _ _ R.o (λ_ _ _ e=>qo)) (au.kept _ _ _ _ AB.o qh qh) (show Bw w aY from(((B.o.thn ce.o).c ((aq.o _).j (yh B.o.size bB))).grown bf.o (yh (yh B.o.size bB) (aq.o _).size) (λg hg=>yh ai (bc.o.lt g hg).1)).c (ax.d (yh ai dB)));clear bp ax bI aw au bH bf dc aj bj cf bi cg;go_wp2_with fail;go_roundw
      case rel=>exact⟨a9,c9,Ms++[m],H++[K],qe,(by rw[yP];exact hk),b8.o,bX.o,bZ.o,cq.o,dP.o⟩
      case measure=>(simp[intOf];omega)
    obtain dm:Ms.length=P.length:=qd;have hy:¬(Ms.length:Int)<(P.length:Int):=qd;go_wp2_with fail;go_ret;exact⟨Jf s I base la lc L T z ma mc Ms,adr0,_,H,rfl,MG.o.aE PX.o (dm.c cU.o),R.o,B.o,b4.o,b4.o⟩
end
section
open Go.Maps
def Bk.eZ{w base a n c fs xs}(h:Bk w base (.slice a n c) n fs xs):Fh w a fs:=λi f d=>by
 obtain⟨b,o,e,u,B,sa,J,I,E⟩:=h.at i f d;refine⟨b,o,e,⟨⟨b,o+i*3,rfl,u,B,sa,J,I,E⟩,λM g=>?_,λr K D t C N v A=>?_⟩⟩
 .injection g with g;subst g;have j:(Value.slice a n c).ownBlock=some b:=by rw[e];rfl
  obtain⟨cs,O⟩:=AO h.Q j;exact⟨cs,O⟩
 have z:=(ye.1 d).1;obtain⟨x,q⟩:∃x,xs[i]?=some x:=⟨xs[i]'(by rw[h.len];exact z),qe⟩
 obtain⟨⟨L,m,rfl⟩,H⟩:=h.P i f x d q;have l:some (Value.slice r K D)=some (.slice L f.s.length m):=by
  rw[<-t];obtain⟨k,p,_,G,_⟩:=BM h.Q ((Oy fs xs h.len i f _ d q 2 qd).c rfl);rw[e]at p;cases p;simpa using G
 injection l with l;injection l with y _ _;subst y;have j:(Value.slice r f.s.length m).ownBlock=some C:=by rw[v];rfl
 obtain⟨cs,O⟩:=AO H j;exact⟨cs,_,O⟩
end
section
open Go.Maps
attribute [local go_sem ↓] wp_at_zero wp_at_succ
def wI(k tag d sa n f a m c nx cp sg w)(h1:k≠1)(h2:k≠2)(h3:k≠3) :
  Ca 45 #[.agg #[I6 k,I6 tag,.string d,.slice sa n f],.agg #[.slice a m c,I6 nx,I6 cp,.bool sg]] w λe w'=>
   (∃r q xs,e=.returned (C6.ad.val r q)/\Bk w' w.heap.size (.slice r C6.ad.fs.length q) C6.ad.fs.length C6.ad.fs xs)/\Bw w w':=by
 have E:(k==1)=false:=qw;have C:(k==2)=false:=qu;have U:(k==3)=false:=Mt;clear h1 h2 h3;go_enter func45,ntmps45;go_upto_region 1 with fail;refine Be ?_;intro o l g;have s:Bw w o:=(((yX w.heap.size w).alloc AH _).alloc qe _).c (l.j qf);have u:w.heap.size<=(w.alloc (.cells #[I6 k,I6 tag,.string d,.slice sa n f] 40)).heap.size:=qe;have z:At o w.heap.size 0 (I6 k):=by
  have t:(w.alloc (.cells #[I6 k,I6 tag,.string d,.slice sa n f] 40)).heap[w.heap.size]?=some (.cells #[I6 k,I6 tag,.string d,.slice sa n f] 40 (0,0)):=heap_alloc_new w _;have h1:o.heap[w.heap.size]?=some (.cells #[I6 k,I6 tag,.string d,.slice sa n f] 40 (0,0)):=(l.block _ qf).c ((yS _ _ _ qe).c t);exact AS (L:=[_,_,_,_]) h1 (j:=0) rfl
 obtain⟨b,i⟩:∃b,b=w.heap.size+1+1:=⟨_,rfl⟩
 have O:w.heap.size<=b:=qd;have p:((w.alloc (.cells #[I6 k,I6 tag,.string d,.slice sa n f] 40)).alloc (.cells #[.slice a m c,I6 nx,I6 cp,.bool sg] 27)).heap.size=b:=by simp[i]
 rw[p]at g;obtain⟨x0,x1,J,W,R,x,D,I,M,Y,H,y,B,G,K,N,A,T⟩:=Nj g rfl;clear l g u p;simp only[<-i];clear i;go_wp2_with fail;refine bodyPost_ret (v:=C6.ad.val none 0) (by simp[results,results45,go_sem,C6.val,C6.ad, *]) rfl ⟨⟨none,0,[],rfl,Bk.nil _ _⟩,?_⟩;exact(((((s.setCell O _).setCell O _).setCell O _).setCell O _).setCell O _).setCell O _
end
section
open Go.Maps
def UR{adr U cb nb wb w}:∀{l:List Ar}{a:CQ l},EE adr U cb nb wb l w a->∀g,E5 nb wb l g->∀c t d,w.heap[g]?≠some (.cells c t d)
 |[],_,h,g,b=>by
  rcases b with rfl|rfl
  .exact h.now.aD
  .exact h.ab.aD
 |(.inl _,_)::_,_,h,g,b=>by
  rcases b with rfl|b
  .exact h.2.1.aD
  .exact UR h.2.2 g b
 |(.inr _,_)::_,_,h,g,b=>by
  rcases b with rfl|rfl|b
  .exact h.2.1.aD
  .exact h.2.2.1.aD
  exact UR h.2.2.2 g b
def MK.St.nc{m:MK}{adr U vw g old w}(h:m.St adr U vw g old w):∀x,m.S x->∀c t d,w.heap[x]?≠some (.cells c t d):=by
 cases m with
 |inl O=>
  obtain⟨R,c⟩:=O;obtain⟨⟨a,f,_⟩,_⟩:=h;exactλx e=>UR f x (G_.2 e)
 |inr t=>
  obtain⟨K,M,_,_,b⟩:=h.2.ex;rintro x (rfl|rfl)
  .exact b.now.aD
  exact b.ab.aD
structure Jy(N:NT) (rs:List Ru) (ms:List Int):Prop where
 len:N.Ms.length=rs.length
 bg:∀(i:Nat)(m:MK)(r:Ru),N.Ms[i]?=some m->rs[i]?=some r->∃d,ms[i]?=some d/\m.X.map Cx.cp=Bm r.v [] 0/\m.aP d
structure FM(N:NT) (rs:List Ru) (ms:List Int) (adr:F->Addr) (U fs fo:List F) (nx:Int) (V:List Value) (olds:List (List Kt)) (n:Nat) (D:DataW Unit) (w:World):Prop where
 st:Em N adr U fs V olds w
 aE:Jy N rs ms
 mp:w.ownsMap prog 3 Bx N.fb n D
 mv:Gg adr fs D
 low:∀f∈U,f.tag<nx
 tg:∀f∈U,∀g∈U,f.tag=g.tag->f=g
 bg:∀f∈fs,adr f=⟨(adr f).block,0,none⟩
 rd:∀f∈fs,Db f/\AJ f
 da:∀f∈fo,f∈U
 br:∀(i:Nat)(r:Ru)(old:List Kt),rs[i]?=some r->olds[i]?=some old->old.Perm ((GP r fo).map (Ab adr))
def Em.dn{N adr U fs V a w rs j}(h:Em N adr U fs V a w)(k:Jy N rs j){i:Nat}{m r}(b:N.Ms[i]?=some m)(l:rs[i]?=some r):BK (m.X.map (Ce (N.vw V fs))) []=GP r fs/\∀T∈GP r fs,T.length<=3/\∀f∈T,f∈U:=by
 have O:=yd b;obtain⟨p,o,g⟩:=h.bx.aI h.lk O;obtain⟨d,_,n,_⟩:=k.bg i m r b l;have e:=Uz n o;refine⟨e,λT c=>?_⟩;rw[<-e]at c;exact m.bZ (h.ok.ok m O) g c
def Jy.at{N rs b}(h:Jy N rs b){i:Nat}{r}(a:rs[i]?=some r):∃m,N.Ms[i]?=some m:=⟨N.Ms[i]'(by rw[h.len];exact(ye.1 a).1),qe⟩
def FM.d{N rs b adr U fs e nx V a n D w w'}(h:FM N rs b adr U fs e nx V a n D w)(c:Bw w w'):FM N rs b adr U fs e nx V a n D w':=
 ⟨h.st.d c,h.aE,Ig h.mp (c.block _ h.mp.lt),h.mv,h.low,h.tg,h.bg,h.rd,h.da,h.br⟩
def FM.dp{N rs Y adr U fs R nx cp sg V k n D w o a c gs nx'}(h:FM N rs Y adr U fs R nx V k n D w)(hv:VS fs nx cp sg)(hg:gs=(BQ fs nx cp sg o).fs)(hx:nx'=(BQ fs nx cp sg o).nx)(h0:(BQ fs nx cp sg o).am=0)(hn:n<50000)(aj:∀v∈o.s,DO v)(ar:o.z.size<=maxLen)(J:Fh w a gs) :
  Ca 46 #[Pn N.nw,.slice a gs.length c] w λe w'=>e=.returned (.tuple #[])/\(∃adr' U' H n' L,FM N rs Y adr' U' gs R nx' H k n' L w'/\n'<=n+1)/\DK N w w':=by
 have B:VS gs nx' cp sg:=by
  rcases S6 o hv with q|⟨l,_,p,A,_⟩
  .rw[h0]at q;omega
  rw[p,A,<-hg,<-hx]at l;exact l
 obtain⟨K,Nw,d⟩:=mC o hv h0;rw[<-hg,<-hx]at d;obtain⟨e1,M⟩:=d.stay (Xh hv.aQ) hv.low;have Z:fs.length<=40:=by have:=hv.len;have:=hv.aM;omega
 have aw:gs.length<=40:=by have:=B.len;have:=B.aM;omega
 have ak:(Lit.int .i64 nx).wf=true:=by
  have E:=hv.cZ;have h2:=hv.dJ;exact Qj qd qd
 have ao:∀f∈gs,Db f/\AJ f:=λf b=>by
  rw[d.eq]at b;rcases yn.1 b with b|b
  .exact h.rd f (d.sub.subset b)
  obtain⟨l,C,p,A⟩:=d.bK f b;refine⟨⟨by rw[l];exact ak,by rw[C];exact aj⟩,?_,?_,by rw[C];exactλv hv=>(aj v hv).2.2⟩
  .rcases A with⟨I,_⟩|⟨g,O,I⟩
   .rw[I];exact ar
   rw[<-I];exact(h.rd g O).2.1
  rw[C];simp only[C4,yi,decide_eq_true_eq]at p;omega
 have am:∀g∈gs,kn fs g=false->g ∉ U:=λg O hk hU=>by
  have hm:g∈gs.filter λg=>!kn fs g:=yf.2 ⟨O,by rw[hk];rfl⟩;rw[M]at hm;have E:=(d.bK g hm).1;have h2:=h.low g hU;omega
 refine(zoB N h.st.ok adr U fs gs V k n D a c w h.st.bx h.st.lk h.st.st h.st.ol h.mp h.mv qd J B.aQ (λf b=>(ao f b).1) qd qd (λf b=>(h.rd f b).1.1) (λf b g O=>h.tg f (h.st.lk.sub f b) g (h.st.lk.sub g O)) am h.bg).j λe w' q=>?_;obtain⟨l,⟨adr',u,H,L,G⟩,p⟩:=q;have m:u=Nw:=by rw[G.ae,yV];exact M
 have t:stay fs gs++u=gs:=by rw[e1,m,d.eq]
 have E:=d.one;have au:∀f∈U++u,f.tag<nx':=λf b=>by
  rcases yn.1 b with b|b
  .have:=h.low f b;rcases d.fd with⟨_,q⟩|q<;>omega
  rw[m]at b;have q:=(d.bK f b).1;rcases d.fd with⟨q',_⟩|q'
  .rw[q']at b;cases b
  omega
 refine⟨l,⟨adr',U++u,H,n+u.length,L,⟨⟨h.st.ok,by have:=G.bx;rwa [t]at this,by have:=G.lk;rwa [t]at this,by have:=G.ms;rwa [t]at this,h.st.ol⟩,h.aE,G.mp,by have:=G.mv;rwa [t]at this,au,λf b g O e=>?_,by have:=G.bg;rwa [t]at this,ao,λf b=>Wp _ (h.da f b),λi r old hr ho=>?_⟩,by rw[m];omega⟩,p⟩
 .rcases yn.1 b with b|b<;>rcases yn.1 O with O|O
  .exact h.tg f b g O e
  .rw[m]at O;have q:=(d.bK g O).1;have q':=h.low f b;omega
  .rw[m]at b;have q:=(d.bK f b).1;have q':=h.low g O;omega
  rw[m]at b O;cases Nw with
  |nil=>cases b
  |cons x r=>
   have aq:r=[]:=by
    simp only[yI]at E;exact YL.1 qd
   rw[aq]at b O;rw[yp.1 b,yp.1 O]
 refine(h.br i r old hr ho).c (KG (Ye λT J=>?_));refine(OI λf b=>G.ag f (h.da f ?_)).y;obtain⟨W,e,hW⟩:=SR _ _ _ J;rw[yY]at e;exact hW f (e▸b)
def Em.nc{N adr U fs V a w}(h:Em N adr U fs V a w):∀g,N.Sm g->∀c t f,w.heap[g]?≠some (.cells c t f):=by
 rintro g ⟨m,e,d⟩;obtain⟨i,b⟩:=YW e;have hl:=(ye.1 b).1;exact(h.st i m (a[i]'(by rw[h.ol];exact hl)) b qe).nc g d
def CgD(N:NT)(rs:List Ru)(ms:List Int)(adr:F->Addr)(U fs:List F)(nx:Int)(V:List Value)(n:Nat)(D:DataW Unit)(w:World)(e:Ending)(w':World):Prop:=
 ∃(pn qn:Nat)(a a':Option Addr)(c c':Nat),e=.returned (.tuple #[.slice a pn c,.slice a' qn c'])/\(∃olds',FM N rs ms adr U fs fs nx V olds' n D w')/\Av N.Sm w w'/\CK w w'
def jX{r fs X vw}(b:NJ X)(O:X.map Cx.cp=Bm r.v [] 0)(a:∀c∈X,gV vw c=fs.filter (Ae c.cp.F))(hl:fs.length<=100):(GP r fs).length<=1000000:=by
 have h:=(RN vw 100 qd X [[]] (λc d=>by rw[a c d];exact yh (y8 _ _) hl)).2;simp only[yL,YQ,yQ,yI,Yz,Yc,W0]at h;rw[Uz O a]at h;exact yh h (yh (Wn qd b.pos) qh)
def FM.db{N rs B adr U fs p nx cp sg V k n D w}(h:FM N rs B adr U fs p nx V k n D w)(ak:(A8 rs).1=0)(hv:VS fs nx cp sg)(E:∀r∈rs,(∀T∈GP r p,T.length<=3)/\(GP r p).length<=1000000) :
  Ca 48 #[Pn N.nw] w (CgD N rs B adr U fs nx V n D w):=by
 have C:fs.length<=40:=by have:=hv.len;have:=hv.aM;omega
 have Y:∀r∈rs,∀T∈GP r p,T.length<=3/\∀f∈T,f∈U:=λr b T s=>⟨(E r b).1 T s,λf I=>by
  obtain⟨W,e,K⟩:=SR _ _ _ s;rw[yY]at e;exact h.da f (K f (e▸I))⟩
 have O:∀(j:Nat)(old:List Kt),k[j]?=some old->∃r,rs[j]?=some r:=λj old o=>⟨rs[j]'(by rw[<-h.aE.len,<-h.st.ol];exact(ye.1 o).1),qe⟩
 have R:∀(j:Nat)(old:List Kt),k[j]?=some old->∀x∈old,∃T,x=Ab adr T/\T.length<=3/\∀f∈T,f∈U:=λj old o x hx=>by
  obtain⟨r,b⟩:=O j old o;obtain⟨T,s,e⟩:=yz.1 ((h.br j r old b o).mem_iff.1 hx);exact⟨T,e.y,Y r (yd b) T s⟩
 have few:∀(j:Nat)(m:MK)(r:Ru),N.Ms[j]?=some m->rs[j]?=some r->(GP r fs).length<=1000000:=λj m r l b=>by
  obtain⟨d,_,A,_⟩:=h.aE.bg j m r l b;exact jX (Sb ak (yd b) A) A (h.st.bx.aI h.st.lk (yd l)).2.1 qd
 refine(zmm N adr U fs V k w h.st R λj m old l o=>?_).j λe w' q=>?_
 .obtain⟨r,b⟩:=O j old o;have h1:=few j m r l b;have h2:=(E r (yd b)).2;rw[(h.st.dn h.aE l b).1,(h.br j r old b o).length_eq,yt];omega
 obtain⟨P,Q,a,J,c,H,xs,G,q2,q3,q4,q5,q6,q7,q8,q9,⟨Ls,olds',l0,l1,l2,M,l4,Z⟩,u⟩:=q;refine⟨_,_,a,J,c,H,G,⟨olds',M,h.aE,Ig h.mp (u.block _ h.mp.lt (λ⟨m,l,v⟩=>h.st.ok.ci m l v)),h.mv,h.low,h.tg,h.bg,h.rd,h.st.lk.sub,λi r old b L=>?_⟩,u,λg cs t fr z=>(u.block g (Ak z) (λv=>h.st.nc g v _ _ _ z)).c z⟩;obtain⟨m,l⟩:=h.aE.at b;have:=Z i m old l L;rwa [(h.st.dn h.aE l b).1]at this
structure LG where
 am:Int
 tag:Int
 size:Int
 va:Value
 vd:Value
def Sw(x:LG):List Value:=[.int .i64 x.am,.int .i64 x.tag,x.va,x.vd,.int .i64 x.size]
abbrev SO(w:World)(b:Nat)(a:Option Addr)(c:Nat)(L:List LG):Prop:=w.ownsRow b 42 5 (.slice a L.length c) L.length (L.flatMap Sw)
def SO.bJ{w w' b a c L}(h:SO w b a c L)(f:∀(k:Nat)c,b<=k->w.heap[k]?=some (.cells c 42 (0,0))->w'.heap[k]?=w.heap[k]?):SO w' b a c L:=Bv h λg d=>by
 obtain⟨e,O⟩:=AO h d;exact f g e (h.lt g d).1 O
def SO.O{w w' b a c L}(h:SO w b a c L)(e:CK w w'):SO w' b a c L:=h.bJ λ_ _ _ d=>(e _ _ _ _ d).c d.y
def SO.fn{N w w' b a c L}(h:SO w b a c L)(e:DK N w w'):SO w' b a c L:=h.bJ λk c _ d=>(e.kept _ _ _ _ d qh qh).c d.y
def s9:(prog.info? 42).map (λi=>(i.zero,i.size,i.bytes))=some (some (.agg #[I6 0,I6 0,.slice none 0 0,.slice none 0 0,I6 0]),5,72):=qg
def Oa(w:World)(a:Option Addr)(os:List Wo):Prop:=∀(i:Nat)(o:Wo),os[i]?=some o->∃b p sa sc,a=some ⟨b,p,none⟩/\w.cell? ⟨b,p+i*4,none⟩=some (.int .i64 o.u)/\w.cell? ⟨b,p+i*4+1,none⟩=some (.int .i64 o.tag)/\w.cell? ⟨b,p+i*4+2,none⟩=some (.string o.z)/\w.cell? ⟨b,p+i*4+3,none⟩=some (.slice sa o.s.length sc)/\Bt w sa o.s
def Oa.d{w w' a f}(h:Oa w a f)(c:Bw w w'):Oa w' a f:=λi o k=>by
 obtain⟨b,p,sa,m,e,O,n,l,j,g⟩:=h i o k;exact⟨b,p,sa,m,e,zab c O,zab c n,zab c l,zab c j,g.d c⟩
structure Ir(o:Wo):Prop where
 wf:(Lit.int .i64 o.tag).wf=true
 z:o.z.size<=maxLen
 len:o.s.length<=1048576
 cd:∀v∈o.s,DO v
def zj(o)(O:Ir o)(a c fs nx cp sg sa g w)(hv:Bz w a fs)(m:fs.length<=c)(l:Bt w sa o.s)(hl:fs.length<=1048576)(d:∀f∈fs,Db f/\AJ f) :
  Ca 45 #[.agg #[I6 o.u,I6 o.tag,.string o.z,.slice sa o.s.length g],.agg #[.slice a fs.length c,I6 nx,I6 cp,.bool sg]] w λe w'=>
   (∃n p xs,e=.returned ((BQ fs nx cp sg o).val n p)/\Bk w' w.heap.size (.slice n (BQ fs nx cp sg o).fs.length p) (BQ fs nx cp sg o).fs.length (BQ fs nx cp sg o).fs xs)/\Bw w w':=by
 unfold BQ;by_cases k:o.u=1
 .rw[if_pos k,k];exact zkv a c fs nx cp sg o.z o.tag sa g o.s w hv m O.wf l hl (λf b=>(d f b).2) (λf b=>(d f b).1) O.z O.len O.cd
 rw[if_neg k];by_cases i:o.u=2
 .rw[if_pos i,i];exact zjV a c fs nx cp sg o.z o.tag sa g o.s w hv m O.wf l hl (λf b=>(d f b).2) (λf b=>(d f b).1) O.z O.len O.cd
 rw[if_neg i];by_cases j:o.u=3
 .rw[if_pos j,j];exact zlN a c fs nx cp sg o.z o.tag sa g o.s w hv m O.wf l hl (λf b=>(d f b).2) (λf b=>(d f b).1) O.z O.len O.cd
 rw[if_neg j];exact wI o.u o.tag o.z sa o.s.length g a fs.length c nx cp sg w k i j
def FM.cl{N rs f adr U fs s nx cp sg V b n D w}(h:FM N rs f adr U fs s nx V b n D w)(p:(A8 rs).1=0)(hv:VS fs nx cp sg)(x:f.length=rs.length) :
  Ca 47 #[Pn N.nw] w λe w'=>e=.returned (I6 (H8 rs f fs))/\w'=w:=by
 have l:fs.length<=40:=by have:=hv.len;have:=hv.aM;omega
 have key:∀(i:Nat)(m:MK),N.Ms[i]?=some m->∃r d,rs[i]?=some r/\f[i]?=some d/\r∈rs/\m.X.map Cx.cp=Bm r.v [] 0/\m.aP d:=λi m a=>by
  obtain⟨r,g⟩:∃r,rs[i]?=some r:=⟨rs[i]'(by rw[<-h.aE.len];exact(ye.1 a).1),qe⟩
  obtain⟨d,q,y,t⟩:=h.aE.bg i m r a g;exact⟨r,d,g,q,yd g,y,t⟩
 have e:(N.Ms.map (MK.sz (N.vw V fs))).sum=H8 rs f fs:=by
  unfold H8;congr 1;apply YA;intro i;rw[yA,yA]
  cases a:N.Ms[i]? with
  |none=>
   have hl:N.Ms.length<=i:=by simpa using a
   have:(rs.zip f)[i]?=none:=Yi (by rw[List.length_zip,x,Nat.min_self,<-h.aE.len];exact hl);rw[this];rfl
  |some m=>
   obtain⟨r,d,g,hd,O,j,k⟩:=key i m a;have:(rs.zip f)[i]?=some (r,d):=WM.2 ⟨g,hd⟩;rw[this];simp only[Y4,YY];exact ZO (MV p O) j (h.st.bx.aI h.st.lk (yd a)).2.1 k
 rw[<-e];refine zQ N h.st.ok adr U fs V b w h.st.bx h.st.lk h.st.st h.st.ol λm a=>?_;obtain⟨i,u⟩:=YW a;obtain⟨r,d,g,hd,O,j,k⟩:=key i m u;have o:=Sb p O j;exact xM o.X6 o.pos λc z=>by
  rw[(h.st.bx.aI h.st.lk a).2.1 c z];exact yh (y8 _ _) qd
end
section
attribute [local go_sem ↓] wp_at_zero wp_at_succ
def zq(fs nx cp sg o):(o.u=1/\BQ fs nx cp sg o=Dl fs nx cp sg o.z o.s)∨(o.u=2/\BQ fs nx cp sg o=CV fs nx cp sg o.tag)∨(o.u=3/\BQ fs nx cp sg o=BP fs nx cp sg o.tag o.s)∨(o.u≠1/\o.u≠2/\o.u≠3/\BQ fs nx cp sg o=C6.ad):=by
 unfold BQ;by_cases b:o.u=1
 .exact .inl ⟨b,if_pos b⟩
 rw[if_neg b];by_cases a:o.u=2
 .exact .inr (.inl ⟨a,if_pos a⟩)
 rw[if_neg a];by_cases c:o.u=3
 .exact .inr (.inr (.inl ⟨c,if_pos c⟩))
 exact .inr (.inr (.inr ⟨b,a,c,if_neg c⟩))
def NA{P:World->Prop}{w o1 O a d}(h:∀wt b,b=w.heap.size->Bw w wt->wt.heap[b]?=some o1->wt.heap[b+1]?=some O->wt.heap[b+1+1]?=some a->wt.heap[b+1+1+1]?=some d->P wt):P ((((w.alloc o1).alloc O).alloc a).alloc d):=by
 refine h _ _ rfl (((Aj.alloc qe _).alloc qf _).alloc qf _) ?_ ?_ ?_ ?_
 .exact(yS _ _ _ qf).c ((yS _ _ _ qf).c ((yS _ _ _ qe).c (heap_alloc_new _ _)))
 .exact(yS _ _ _ qe).c ((yS _ _ _ qe).c qU)
 .exact(yS _ _ _ qe).c (by have:=heap_alloc_new ((w.alloc o1).alloc O) a;simpa using this)
 have:=heap_alloc_new (((w.alloc o1).alloc O).alloc a) d;simpa using this
def Nz{P:World->Prop}{w b t x0 x1 m p r g d a c f e O}(q:w.heap[b]?=some (.cells #[x0,x1,m,p,r,g] t (0,0)))(h:∀wt,wt.heap[b]?=some (.cells #[d,a,c,f,e,O] t (0,0))->Turned w wt b->P wt):P ((((((w.setCell ⟨b,0,none⟩ d).setCell ⟨b,1,none⟩ a).setCell ⟨b,2,none⟩ c).setCell ⟨b,3,none⟩ f).setCell ⟨b,4,none⟩ e).setCell ⟨b,5,none⟩ O):=by
 have o:=Co (i:=0) q d;have j:=Co (i:=1) o a;have n:=Co (i:=2) j c;have l:=Co (i:=3) n f;have s:=Co (i:=4) l e;have k:=Co (i:=5) s O;exact h _ (by simpa using k) (Turned.setCells [d,a,c,f,e,O] 0 w b)
def DT.fe{Z w a fs}(h:DT Z w a fs):DT (λb=>Z b/\b<w.heap.size) w a fs:=λi f q=>by
 obtain⟨b,o,m,t,e,n,s,c,l,r⟩:=h i f q;refine⟨b,o,⟨m,yO w ⟨b,_,none⟩ e⟩,t,e,n,s,c,l,λj v hv=>?_⟩;obtain⟨d,o',O,u,g,p,k⟩:=r j v hv;exact⟨d,o',⟨O,yO w ⟨d,_,none⟩ g⟩,u,g,p,k⟩
def Rk{w b}(q:w.heap[b]?=some (.cells #[.slice none 0 0,I6 0,I6 0,.bool false,I6 1,I6 0] 87 (0,0))):At w b 0 (.slice none 0 0)/\At w b 1 (I6 0)/\At w b 2 (I6 0)/\At w b 3 (.bool false)/\At w b 4 (I6 1)/\At w b 5 (I6 0)/\w.frozen? ⟨b,0,none⟩=false/\w.frozen? ⟨b,1,none⟩=false/\w.frozen? ⟨b,2,none⟩=false/\w.frozen? ⟨b,3,none⟩=false/\w.frozen? ⟨b,4,none⟩=false/\w.frozen? ⟨b,5,none⟩=false:=by
 simp[World.cell?,World.frozen?,q]
def Jp(r:C6)(fs:List F)(nx cp:Int)(sg:Bool):C6:=if r.am=1 then⟨fs,nx,cp,sg,0,0⟩ else r
def uZ{fs nx cp sg}(o)(h:VS fs nx cp sg):let r:=Jp (BQ fs nx cp sg o) fs nx cp sg;(r.fs,r.nx)=LU fs nx cp sg o/\r.cp=cp/\r.sg=sg:=by
 unfold Jp LU;rcases S6 o h with q|⟨_,_,a,c,e⟩
 .simp[q]
 by_cases b:(BQ fs nx cp sg o).am=1
 .simp[b]
 by_cases O:(BQ fs nx cp sg o).am=0
 .simp[O,a,c]
 obtain⟨f,d⟩:=e O;simp[b,O,a,c,f,d]
def rQ(r:C6)(b:Nat)(w1 wx:World):Prop:=∃a2 c2,Hid (wx.heap[b+1+1+1]?=some (.cells #[.slice a2 r.fs.length c2,I6 r.nx,I6 r.cp,.bool r.sg,I6 r.am,I6 r.tag] 87 (0,0)))/\Hid (DT (λg=>w1.heap.size<=g) wx a2 r.fs)/\r.fs.length<=c2/\Hid (Bg (some (b+1+1+1)) w1 wx)
def rS{r b a j wt n l}(hl:b+1+1+1<a.heap.size)(q:DT (λg=>a.heap.size<=g) j n r.fs)(s:r.fs.length<=l)(o:Bw a j)(p:wt.heap[b+1+1+1]?=some (.cells #[.slice n r.fs.length l,I6 r.nx,I6 r.cp,.bool r.sg,I6 r.am,I6 r.tag] 87 (0,0)))(f:Turned j wt (b+1+1+1)):rQ r b a wt:=
 ⟨_,_,p,q.kept λg t _=>f.block g qd,s,(Bg.m o).c ⟨f.d (yk _),λk _ i=>f.block k (λe=>i Gx)⟩⟩
def ZF(h:P:=by
 rintro e w2 ⟨⟨a2,c2,rfl,aj,ai⟩,af⟩;have FA:=Aa (λwt=>GO.o a2 c2 w2 wt aj ai af);have q:=(af.block _ l4).c Q4.o;have QQ:=Aa q;obtain⟨u0,u1,u2,u3,u4,u5,v0,v1,v2,v3,v4,v5⟩:=Rk q;clear aj ai q H1 H2 H3 GO af;unfold C6.val;go_wp2_with fail;refine Nz QQ.o ?_;intro wt hq ht;go_meet;exact FA.o wt hq ht
 ):=h
def zv(o)(x:Ir o)(Z a c fs nx cp sg sa U w)(hv:DT Z w a fs)(G:fs.length<=c)(T:Bt w sa o.s)(hl:fs.length<=1048576)(C:∀f∈fs,AJ f) :
  Ca 14 #[.agg #[.slice a fs.length c,I6 nx,I6 cp,.bool sg],.agg #[I6 o.u,I6 o.tag,.string o.z,.slice sa o.s.length U]] w λe w'=>∃a' Y r,r=Jp (BQ fs nx cp sg o) fs nx cp sg/\e=.returned (.agg #[.slice a' (List.length r.fs) Y,I6 r.nx,I6 r.cp,.bool r.sg])/\DT (λb=>Z b∨w.heap.size<=b) w' a' r.fs/\r.fs.length<=Y/\Bw w w':=by
 obtain⟨H1,H2,H3,HV,J⟩:=DE (λw'(h:Bw w w')=>zlG a c fs nx cp sg o.z sa U o.s w' (hv.at.d h) (T.d h) G hl C x.z x.len (λv hv=>(x.cd v hv).2.2)) (λw'(h:Bw w w')=>zkd a c fs nx cp sg o.tag w' (hv.at.d h) G hl C) (λw'(h:Bw w w')=>zlx a c fs nx cp sg o.tag sa U o.s w' (hv.at.d h) (T.d h) G hl C x.len (λv hv=>(x.cd v hv).2.2)) hv.fe (zq fs nx cp sg o);obtain⟨r,hr⟩:∃r,r=BQ fs nx cp sg o:=⟨_,rfl⟩
 rw[<-hr]at J⊢;clear T C hr hv;go_enter func14,ntmps14;go_upto_region 2 with fail;refine NA ?_;intro p b hb aw H q2 q3 M;rw[<-hb];obtain⟨s0,s1,s2,s3⟩:=Ay H;obtain⟨p0,p1,p2,p3⟩:=Ay q2;obtain⟨n,Q1,Q3,Q4⟩:=Bn aw H q3 M;have l4:=Ak M;have aB:w.heap.size<=b:=qd;clear hb aw H q2 q3 M
 go_upto_block 0 with fail
 go_cut [] (λwx=>rQ r b p wx)
 case first=>
  have GO:=Aa (λ(a2:Option Addr)(c2:Nat)(w2 wt:World)=>@rS r b p w2 wt a2 c2 l4);rcases J.o with⟨m,l⟩|⟨m,l⟩|⟨m,l⟩|⟨m,ax,ar,l⟩
  all_goals clear J
  .have K:(o.u==1)=true:=by simp;omega
   rw[<-l]at H1;clear m l;go_wp2_with fail;refine(H1.o p n.o).j ?_;exact ZF
  .have K:(o.u==1)=false:=by simp;omega
   have k2:(o.u==2)=true:=by simp;omega
   rw[<-l]at H2;clear m l;go_wp2_with fail;refine(H2.o p n.o).j ?_;exact ZF
  .have K:(o.u==1)=false:=by simp;omega
   have k2:(o.u==2)=false:=by simp;omega
   have k3:(o.u==3)=true:=by simp;omega
   rw[<-l]at H3;clear m l;go_wp2_with fail;refine(H3.o p n.o).j ?_;exact ZF
  .have K:(o.u==1)=false:=by simp;omega
   have k2:(o.u==2)=false:=by simp;omega
   have k3:(o.u==3)=false:=by simp;omega
   clear m ax ar;go_wp2_with fail;go_meet;rw[l];exact⟨none,0,Q4.o,λi f hf=>Nt,yk _,Bg.refl _ _⟩
 case rest=>
  obtain⟨a2,c2,A,aj,ai,E⟩:=hcut;obtain⟨w2,rfl⟩:∃v,v=wc:=⟨wc,rfl⟩
  have az:=E.o.rest.size;have au:=(E.o.block b qd (λe=>qK)).c Q1.o;have D:=(E.o.block (b+1+1) qd (λe=>qK)).c Q3.o;obtain⟨aA,N⟩:=Ah D (show Bw w w2 from n.o.c (E.o.d n.o.size (λg hg=>ZR)));have HW:=Aa (HV.o.kept (w':=w2) λg _ hg=>N.o.block g hg);have u4:=AS (L:=[_,_,_,_,_,_]) A.o (j:=4) rfl;have u0:=AS (L:=[_,_,_,_,_,_]) A.o (j:=0) rfl;have u1:=AS (L:=[_,_,_,_,_,_]) A.o (j:=1) rfl;have u2:=AS (L:=[_,_,_,_,_,_]) A.o (j:=2) rfl;have u3:=AS (L:=[_,_,_,_,_,_]) A.o (j:=3) rfl;obtain⟨t0,t1,t2,t3⟩:=Ay au;obtain⟨y0,y1,y2,y3⟩:=Ay D;have t:∀j,w2.frozen? ⟨b+1+1,j,none⟩=false:=λj=>by simp[World.frozen?,D]
  have z0:=t 0;have z1:=t 1;have z2:=t 2;have z3:=t 3;obtain⟨K4,B4⟩:=Ah (λ(x0 x1 R W:Value)k(m:k≠b+1+1)=>(Turned.setCells [x0,x1,R,W] 0 w2 (b+1+1)).block k m) (λ(x0 x1 R W:Value)=>((Turned.setCells [x0,x1,R,W] 0 w2 (b+1+1)).d (B:=w.heap.size) qd));clear au D t;by_cases O:r.am=1
  .have ay:(r.am==1)=true:=qZ;have I:=Aa (show(⟨fs,nx,cp,sg,0,0⟩:C6)=Jp r fs nx cp sg from(if_pos O).y);clear O;go_wp2_with fail;refine bodyPost_ret (v:=.agg #[.slice a fs.length c,I6 nx,I6 cp,.bool sg]) (by simp[results,results14,go_sem,y0,y1,y2,y3]) rfl ⟨a,c,⟨fs,nx,cp,sg,0,0⟩,I.o,rfl,?_,G,N.o.c (B4.o _ _ _ _)⟩;exact DT.j (HW.o.kept λg hg _=>K4.o _ _ _ _ g qd) (λg hg=>.inl hg.1)
  have ay:(r.am==1)=false:=qZ;have I:=Aa (show r=Jp r fs nx cp sg from(if_neg O).y);have aC:=n.o.size;clear O;go_wp2_with fail;refine bodyPost_ret (v:=.agg #[.slice a2 r.fs.length c2,I6 r.nx,I6 r.cp,.bool r.sg]) (by simp[results,results14,go_sem,y0,y1,y2,y3]) rfl ⟨a2,c2,r,I.o,rfl,?_,ai,N.o.c (B4.o _ _ _ _)⟩;exact DT.j (aj.o.kept λg hg _=>K4.o _ _ _ _ g qd) (λg hg=>.inr qd)
end
def ww{pre r}(h:(A_ pre r).1=0):(A_ [] r).1=0:=by
 unfold A_ at h⊢;cases a:Am r with
 |some i=>rw[a]at h;simp at h
 |none=>
  rw[a]at h;simp only at h⊢;split at h
  .simp at h
  simpa using h
def mM:∀(l pre:List Ru)(k:Nat),(EJ pre l k).1=0->∀r∈l,(A_ [] r).1=0
 |[],_,_,_,r,a=>by simp at a
 |q::s,pre,k,h,r,a=>by
  unfold EJ at h
  split at h
  .rename_i O
   rcases yG.1 a with rfl|a
   .exact ww O
   exact mM s _ _ h r a
  rename_i O
  exact absurd h O
def wH{rs}(h:(A8 rs).1=0){r}(a:r∈rs):(A8 [r]).1=0:=by
 unfold A8 at h;split at h
 .have:=mM rs [] 0 h r a;show(if [r].length<=16 then EJ [] [r] 0 else(1,0,0)).1=0;rw[if_pos qe];unfold EJ;rw[if_pos this];rfl
 simp at h
def Qq{rs fs}(h:(A8 rs).1=0)(b:C8 fs=true){r}(a:r∈rs):Cy [r] fs=true:=by
 unfold Cy;rw[decide_eq_true (wH h a),b];rfl
def vA{rs fs}(h:(A8 rs).1=0)(a:C8 fs=true):Cy rs fs=true:=by
 unfold Cy;rw[decide_eq_true h,a];rfl
def h9{fs nx cp sg}(h:VS fs nx cp sg):C8 fs=true:=by
 have b:=h.len;have a:=h.aM;simp only[C8,yi,decide_eq_true_eq];exact⟨qd,h.aQ⟩
def tokS(rs:List Ru)(fs:List F):Nat:=(rs.map λr=>tokM r fs).sum
def insS(rs:List Ru)(fs:List F):Nat:=(rs.map λr=>(GP r fs).length).sum
def UP{rs fs}:∀{l:List Ru},(∀r∈l,r∈rs)->(A8 rs).1=0->C8 fs=true->H8 l (DV 0 l) fs=(tokS l fs:Int)
 |[],_,_,_=>rfl
 |r::l,hl,hc,hg=>by
  have O:=UP (l:=l) (λq b=>hl q (by simp[b])) hc hg
  unfold H8 DV tokS at *
  simp only[yq,WY,YU,O]
  have a:Mo 0 r fs=(tokM r fs:Int):=by
   unfold Mo tokM;rw[if_pos rfl,if_pos (Qq hc hg (hl r qe))]
  rw[a];omega
def UE{fs}:∀(l:List Ru),H8 l (DV 1 l) fs=(insS l fs:Int)
 |[]=>rfl
 |r::l=>by
  have O:=UE (fs:=fs) l
  unfold H8 DV insS at *
  simp only[yq,WY,YU,O]
  have a:Mo 1 r fs=((GP r fs).length:Int):=by
   unfold Mo;rw[if_neg qh]
  rw[a];omega
def xN{fs}:∀{l:List Ru}(_:∀r∈l,Fq r.v [] 0)(i:Nat),(EY fs i l).length=insS l fs:=λ{l}a i=>by
 rw[uW a]
 induction l generalizing i with
 |nil=>rfl
 |cons r l O=>
  have O:=O (λq b=>a q (by simp[b])) (i+1);unfold insS at *;rw[List.zipIdx_cons,yL,yP,yt,O];rfl
def gp{rs fs}(a:(A8 rs).1=0)(c:C8 fs=true):∀{l:List Ru},(∀r∈l,r∈rs)->insS l fs<=tokS l fs
 |[],_=>yu _
 |r::l,hl=>by
  have O:=gp a c (l:=l) (λq e=>hl q (by simp[e]))
  have b:=hl r qe
  have i:(GP r fs).length<=tokM r fs:=by
   unfold tokM;rw[if_pos (Qq a c b),W_ (MV a b)];have g:1<=r.v.length:=by
    have:=UY a b;have f:Ad r.v<=r.v.length:=WD;omega
   obtain⟨n,d⟩:∃n,r.v.length=n+1:=⟨r.v.length-1,qd⟩
   rw[d,KD,yF,WV];simp only[yq,YB,YU,List.sum_nil,KJ];rw[yT (by rw[Na];omega)];exact Nat.le_add_left _ _
  unfold insS tokS at *;simp only[yq,YU];omega
def kB:∀(a:List Pt)(vs:List Vr)(n:Nat)(T:List F),1<=Ad a->Ci (Bm a vs n) [] T=[]
 |[],_,_,_,h=>by simp[Ad]at h
 |p::a,vs,n,T,h=>by
  unfold Bm Ci
  cases b:p.neg
  .simp
  simp only[if_true,List.any_nil,Yn,if_false]
  refine kB a vs n T ?_
  simpa[Ad,FW,b] using h
def ja{rs}(a:(A8 rs).1=0):∀{l:List Ru},(∀r∈l,r∈rs)->insS l []=0
 |[],_=>rfl
 |r::l,hl=>by
  have O:=ja a (l:=l) (λq b=>hl q (by simp[b]))
  unfold insS at *
  simp only[yq,YU,O]
  unfold GP
  rw[kB _ _ _ _ (UY a (hl r qe))]
  rfl
section
open Go.Maps
attribute [local go_sem ↓] wp_at_zero wp_at_succ
def UL(L0:List Int)(w:World)(e:Ending)(w':World):Prop:=∃(sa:Option Addr)(sc:Nat)(L:List LG),e=.returned (.slice sa L.length sc)/\SO w' w.heap.size sa sc L/\L.map LG.size=L0/\Bw w w'
structure fM(w0:World) (N:NT) (rs:List Ru) (ms:List Int) (cp:Int) (sg:Bool) (os:List Wo) (k stb:Nat) (fa:Option Addr) (fc:Nat) (sa:Option Addr) (sc:Nat) (L:List LG) (w:World):Prop where
 aE:∃adr U V olds n D,FM N rs ms adr U (Bb cp sg (os.take k)).1 (Bb cp sg (os.take k)).1 (Bb cp sg (os.take k)).2 V olds n D w/\n<=k
 box:w.heap[stb]?=some (.cells #[.slice fa (Bb cp sg (os.take k)).1.length fc,.int .i64 (Bb cp sg (os.take k)).2,.int .i64 cp,.bool sg] 27 (0,0))
 dq:Fh w fa (Bb cp sg (os.take k)).1
 cA:(Bb cp sg (os.take k)).1.length<=fc
 st:SO w w0.heap.size sa sc L
 eq:L.map LG.size=Hf rs ms cp sg os k
 C:Bw w0 w
structure fL(w0:World) (N:NT) (rs:List Ru) (ms:List Int) (cp:Int) (sg:Bool) (os:List Wo) (k stb:Nat) (fa:Option Addr) (fc:Nat) (sa:Option Addr) (sc:Nat) (L:List LG) (w:World):Prop where
 aE:∃adr U V olds n D,FM N rs ms adr U (Bb cp sg (os.take (k+1))).1 (Bb cp sg (os.take k)).1 (Bb cp sg (os.take (k+1))).2 V olds n D w/\n<=k+1
 box:w.heap[stb]?=some (.cells #[.slice fa (Bb cp sg (os.take (k+1))).1.length fc,.int .i64 (Bb cp sg (os.take (k+1))).2,.int .i64 cp,.bool sg] 27 (0,0))
 dq:Fh w fa (Bb cp sg (os.take (k+1))).1
 cA:(Bb cp sg (os.take (k+1))).1.length<=fc
 st:SO w w0.heap.size sa sc L
 eq:L.map LG.size=Hf rs ms cp sg os k
 C:Bw w0 w
def Fh.d{w w' a gs}(h:Fh w a gs)(g:Bw w w'):Fh w' a gs:=λi f c=>by
 obtain⟨b,p,e,k⟩:=h i f c;exact⟨b,p,e,k.d g⟩
def Fh.H{w w' a gs b d}(h:Fh w a gs)(l:w.heap[b]?=some (.cells d 27 (0,0)))(m:Turned w w' b):Fh w' a gs:=λi f n=>by
 obtain⟨g,p,e,k⟩:=h i f n;exact⟨g,p,e,k.keep λj c t o hj O=>(m.block j λq=>by
  subst q;exact Cf hj l (by rcases O with rfl|rfl<;>decide)).c hj⟩
def FM.H{N rs g adr U fs l nx V f n D w w' b p}(h:FM N rs g adr U fs l nx V f n D w)(q:w.heap[b]?=some (.cells p 27 (0,0)))(i:Turned w w' b):FM N rs g adr U fs l nx V f n D w':=by
 have O:∀(k:Nat)(o:Obj),w.heap[k]?=some o->(∀c,o≠.cells c 27 (0,0))->w'.heap[k]?=some o:=λk o a s=>(i.block k λe=>by
  subst e;rw[q]at a;injection a with a;exact s _ a.y).c a
 obtain⟨es,r,j⟩:=ID h.mp;exact⟨h.st.kn ⟨i.d (yk _),λk c t u a hn=>O k _ a (λm e=>Uh),λk es r a _=>O k _ a (λm e=>qo)⟩,h.aE,Ig h.mp ((O _ _ j (λm e=>qo)).c j.y),h.mv,h.low,h.tg,h.bg,h.rd,h.da,h.br⟩
structure Hn(w w':World):Prop where
 rest:Below 0 w w'
 kept:∀(k:Nat)(o:Obj),w.heap[k]?=some o->(∀c,o≠.cells c 42 (0,0))->w'.heap[k]?=some o
def Hn.c{u v w}(h:Hn u v)(k:Hn v w):Hn u w:=⟨h.rest.c k.rest,λj o hj O=>k.kept j o (h.kept j o hj O) O⟩
def Hn.m{w w'}(h:Bw w w'):Hn w w':=⟨h.j (yk _),λk _ a _=>(h.block k (yj.1 a).1).c a⟩
def Hn.bh{w w' b O}(g:w.heap[b]?=some (.cells O 42 (0,0)))(f:Turned w w' b):Hn w w':=⟨f.d (yk _),λk o a i=>(f.block k λe=>by
 subst e;rw[g]at a;injection a with a;exact i _ a.y).c a⟩
def Hn.ai{w w' b v n xs}(g:w.ownsRow b 42 5 v n xs)(d:w.grownBy w' v.ownBlock):Hn w w':=⟨⟨d.os,d.tape,d.output,d.size,λk a=>absurd a qd⟩,λk o a O=>(d.block k (yj.1 a).1 λe=>by
 obtain⟨c,f⟩:=AO g e.y;rw[f]at a;injection a with a;exact O _ a.y).c a⟩
def FM.dM{N rs f adr U fs i nx V a n D w w'}(h:FM N rs f adr U fs i nx V a n D w)(b:Hn w w'):FM N rs f adr U fs i nx V a n D w':=by
 obtain⟨es,l,g⟩:=ID h.mp;exact⟨h.st.kn ⟨b.rest,λk c t m d hn=>b.kept k _ d (λj e=>Uh),λk es l d _=>b.kept k _ d (λj e=>qo)⟩,h.aE,Ig h.mp ((b.kept _ _ g (λj e=>qo)).c g.y),h.mv,h.low,h.tg,h.bg,h.rd,h.da,h.br⟩
def Fh.dM{w w' a gs}(h:Fh w a gs)(d:Hn w w'):Fh w' a gs:=λi f b=>by
 obtain⟨g,p,e,k⟩:=h i f b;exact⟨g,p,e,k.keep λj c t m hj O=>d.kept j _ hj (λl e=>by cases e;rcases O with q|q<;>revert q<;>decide)⟩
def Fh.O{w w' a gs}(h:Fh w a gs)(c:CK w w'):Fh w' a gs:=λi f b=>by
 obtain⟨g,p,e,k⟩:=h i f b;exact⟨g,p,e,k.O c⟩
def uy{P:World->Prop}{w b t x0 x1 g m e a O}(j:w.heap[b]?=some (.cells #[x0,x1,g,m,e] t (0,0)))(h:∀wt,wt.heap[b]?=some (.cells #[x0,x1,a,O,e] t (0,0))->Turned w wt b->P wt):P ((w.setCell ⟨b,2,none⟩ a).setCell ⟨b,3,none⟩ O):=by
 have l:=Co (i:=2) j a;have h2:=Co (i:=3) l O;refine h _ qu ?_;have d:Turned w (w.setCell ⟨b,2,none⟩ a) b:=Turned.setCells [a] 2 w b;have t2:Turned (w.setCell ⟨b,2,none⟩ a) ((w.setCell ⟨b,2,none⟩ a).setCell ⟨b,3,none⟩ O) b:=Turned.setCells [O] 3 _ b;exact⟨t2.os.c d.os,t2.tape.c d.tape,t2.output.c d.output,t2.size.c d.size,λk f=>(t2.block k f).c (d.block k f)⟩
def Gg.nil(adr):Gg adr [] (.map []):=⟨λt=>⟨λh=>(by simp[Maps.has]at h),λ⟨f,hf,_⟩=>Hx⟩,λf hf=>Hx⟩
def zjT{w:World}{b}(h:w.heap[b]?=some (.map #[] 0)):w.ownsMap prog 3 Bx b 0 (.map []):=by
 have a:b<w.heap.size:=(yj.1 h).1;obtain⟨w0,O⟩:∃w0:World,w0.heap.size=b:=⟨{ w with heap:=w.heap.extract 0 b },qf⟩
 have m:=Wh (H:=Unit) w0 prog 3 Bx;have e:=heap_alloc_new w0 (.map #[] 0);rw[O]at m e;exact Ig m (h.c e.y)
def LK.ff{N rs b adr V a w}(h:LK N adr [] [] V a rs b w)(hf:w.heap[N.fb]?=some (.map #[] 0)):FM N rs b adr [] [] [] 1 V a 0 (.map []) w:=by
 have e:Em N adr [] [] V a w:=⟨h.ok,h.bx,⟨λf hf=>Hx,λf hf=>hf,Y1,qe⟩,h.st,h.ol⟩
 have O:Jy N rs b:=⟨h.len,h.bg⟩
 refine⟨e,O,zjT hf,Gg.nil adr,λf hf=>Hx,λf hf=>Hx,λf hf=>Hx,λf hf=>Hx,λf hf=>Hx,λi r old d g=>?_⟩;obtain⟨m,c⟩:=O.at d;have:=h.br i m old c g;rwa [(e.dn O c d).1]at this
def zoG(rs A cp sg b a c am cm ao co){q q'}(w)(hv:Fa q w a rs)(hc:rs.length<=c)(bh:EW Ru.le 1048576 rs)(a8:∀x∈rs,H_ x.w)(ce:∀r∈rs,∀p∈r.v,∀t∈p.e,DO t.val)(bw:CU q' w am A)(cd:Oa w ao b)(aa:∀o∈b,Ir o)(aQ:(A8 rs).1=0)(aW:K1 A rs.length=true)(h0:0<=cp)(bM:cp<=40)(di:b.length<=60) :
  Ca 10 #[.slice a rs.length c,.slice am A.length cm,I6 cp,.bool sg,.slice ao b.length co] w (UL (Hf rs A cp sg b b.length) w):=by
 obtain⟨bJ,bC⟩:A.all Hj=true/\A.length=rs.length:=by
  simp only[K1,yi,decide_eq_true_eq]at aW;exact⟨aW.1,qd⟩
 have dk:=(Qa aQ).1;have bi:=Aa (X5 a c rs w hv hc bh a8);have cj:NC (A8 rs)=.agg #[I6 0,I6 (A8 rs).2.1,I6 (A8 rs).2.2]:=by simp[NC,aQ]
 obtain⟨z1,bD⟩:∃z,z=(A8 rs).2.1:=⟨_,rfl⟩
 obtain⟨z2,cB⟩:∃z,z=(A8 rs).2.2:=⟨_,rfl⟩
 rw[cj,<-bD,<-cB]at bi;have cT:∀u:World,(Instr.field 80 (.agg #[I6 0,I6 z1,I6 z2]) 0).run prog u=.ok (I6 0) u:=λ_=>by kernel_rfl
 obtain⟨cF,bQ,cO,bk,bn,c8⟩:=Jk (λ(u:World)(W:Bw w u)=>(show Ca 43 #[.slice am A.length cm,I6 (rs.length:Int)] u λe w'=>e=.returned (.bool true)/\w'=u by rw[<-aW];exact zjl am cm A (rs.length:Int) u (bw.d W) qd)) (λ(u:World)(W:Bw w u)=>zn3 rs A a c am cm u (hv.d W) bh ce aQ (bw.d W) bJ bC) cd aa aQ bC;have n0:¬cp<0:=qd;have dp:¬40<cp:=qd;have dr:¬(60:Int)<(b.length:Int):=qd;have cz:=Aa (λk=>PH (cp:=cp) (sg:=sg) h0 bM b k);clear hv hc bh a8 ce bw cd aa aQ aW h0 bM bJ bC bD cB cj;go_enter func10,ntmps10;go_upto_region 8 with(first|(go_at_call 41;refine bi.o.rtn λw1 aG=>?_)|(go_at_call 43;refine(cF.o w1 aG).j ?_;rintro e w2 ⟨rfl,rfl⟩)|(go_at_call 44;refine(bQ.o _ aG).j ?_;rintro e Y ⟨N,adr,V,l,rfl,hN,bP,cH,hbase,hB⟩;have NF:=Aa (hN.ff bP);have B3:=Aa (aG.thn cH);have bW:=Aa (show w.heap.size<=N.base by rw[hbase];exact aG.size);clear hN bP cH hbase hB aG)|fail);refine Be ?_;intro w4 bd cD;have bX:=Aa (show fM w N rs A cp sg b 0 Y.heap.size none 0 none 0 [] w4 from⟨⟨adr,[],V,l,0,_,NF.o.d bd,yu _⟩,cD,λi f hf=>(by simp[Bb]at hf),yu _,yN _ _ _ _,rfl,B3.o.thn bd⟩);have cS:w.heap.size<=Y.heap.size:=B3.o.size;clear bd cD NF B3 bi cF bQ cT;go_wp2_with fail
 go_loopw [48,13] (λiv sv wr=>∃(k:Nat)(fa:Option Addr)(fc:Nat)(sa:Option Addr)(sc:Nat)(L:List LG),iv=I6 (k:Int)/\k<=b.length/\sv=.slice sa L.length sc/\L.length=k/\fM w N rs A cp sg b k Y.heap.size fa fc sa sc L wr) (λiv _ _=>b.length-(intOf iv).toNat)
 case atStart=>exact⟨0,none,0,none,0,[],rfl,yk _,rfl,rfl,bX.o⟩
 case round=>
  obtain⟨k,fa,fc,sa,sc,L,rfl,cf,rfl,bR,b9⟩:=hrel;obtain⟨HLK,s⟩:=Ah bR b9;clear bR b9 bX;by_cases hk:k<b.length
  .obtain⟨o,ho⟩:=Ba hk;have bq:=yd ho;obtain⟨ob,op,dd,cM,cZ,o0,o1,o2,o3,cw⟩:=cO.o k o ho;subst cZ;have B:=s.o.C;have x0:=zab B o0;have x1:=zab B o1;have x2:=zab B o2;have x3:=zab B o3;have cJ:=Aa (cw.d B);obtain⟨fs,aE⟩:∃fs,fs=(Bb cp sg (b.take k)).1:=⟨_,rfl⟩
   obtain⟨nx,R⟩:∃nx,nx=(Bb cp sg (b.take k)).2:=⟨_,rfl⟩
   have aY:VS fs nx cp sg:=by rw[aE,R];exact cz.o k
   have aO:=s.o.box;have aM:=s.o.cA;have br:=s.o.dq;rw[<-aE,<-R]at aO;rw[<-aE]at aM br;have ds:fs.length<=40:=by have:=aY.len;have:=aY.aM;omega
   have bN:∀f∈fs,Db f/\AJ f:=by
    obtain⟨_,_,_,_,_,_,hF,_⟩:=s.o.aE;rw[aE];exact hF.rd
   obtain⟨cA,aA,aw,aN,ci,HO,cq⟩:=Jj (λ(u:World)(W:Bw wr u)=>zj o (bk.o o bq) fa fc fs nx cp sg dd cM u (br.N.d W) aM (cJ.o.d W) qd bN) aO aE R aY ho bq;have z0:(0:Int)<=(k:Int):=qd;have z1:(k:Int)<(b.length:Int):=qd;have cu:Bw w wr:=B;have cy:=Aa cu;clear bq o0 o1 o2 o3 cw B ho aE R aY aM br bN cu aO;go_upto_region 11 with fail;refine Be ?_;intro w5 bl b7;have aV:=Aa bl;obtain⟨y0,y1,y2,y3⟩:=Ay b7;have a3:=(bl.block _ (Ak aA.o)).c aA.o;obtain⟨s0,s1,s2,s3⟩:=Ay a3;clear bl b7 x0 x1 x2 x3;go_upto_region 12 with(first|(go_at_call 45;refine(cA.o w5 aV.o).j ?_;rintro e w6 ⟨⟨ga,gc,gx,rfl,bO⟩,ch⟩;have aX:=Aa bO;have bm:=Aa ch;clear bO ch;dsimp only[C6.val])|fail);refine Be ?_;intro w7 bg K;obtain⟨r,hr⟩:∃r,r=BQ fs nx cp sg o:=⟨_,rfl⟩
   rw[<-hr]at K aX⊢;obtain⟨HR,bV,M⟩:=AA hr K (show Bw wr w7 from(aV.o.thn bm.o).c (bg.j (yh aV.o.size bm.o.size)));have c0:=AS (L:=[_,_,_,_,_,_]) K (j:=0) rfl;have c1:=AS (L:=[_,_,_,_,_,_]) K (j:=1) rfl;have c2:=AS (L:=[_,_,_,_,_,_]) K (j:=2) rfl;have c3:=AS (L:=[_,_,_,_,_,_]) K (j:=3) rfl;have c4:=AS (L:=[_,_,_,_,_,_]) K (j:=4) rfl;have cW:=Aa (show Fh w7 ga r.fs from aX.o.eZ.d bg);have cN:r.fs.length<=gc:=L_ aX.o.Q;have O:=(M.o.block _ (Ak aA.o)).c aA.o;have az:=Aa O;have aF:∀j,w7.frozen? ⟨Y.heap.size,j,none⟩=false:=λj=>by simp[World.frozen?,O]
   have e0:=AS (L:=[_,_,_,_]) O (j:=0) rfl;have e1:=AS (L:=[_,_,_,_]) O (j:=1) rfl;have e2:=AS (L:=[_,_,_,_]) O (j:=2) rfl;have e3:=AS (L:=[_,_,_,_]) O (j:=3) rfl;have bZ:=aF 0;have cE:=aF 1;have cv:=aF 2;have b0:=aF 3;have bI:Y.heap.size≠w6.heap.size:=λe=>by
    rw[e]at O;exact Cf K O qh
   have RK:=Aa (Td (cp:=cp) (sg:=sg) HO.o);clear bg K hr s0 s1 s2 s3 y0 y1 y2 y3 cA aX bm aV aF a3 O;go_upto_if 57 with fail
   go_cut [] (λwx=>∃aT aR,fL w N rs A cp sg b k Y.heap.size aT aR sa sc L wx/\wx.heap[w6.heap.size]?=some (.cells #[.slice ga r.fs.length gc,I6 r.nx,I6 r.cp,.bool r.sg,I6 r.am,I6 r.tag] 87 (0,0)))
   case first=>
    by_cases hc:r.am=0
    .have c9:(r.am==0)=true:=Nx;obtain⟨adr,U,V,l,n,D,hF,hn⟩:=s.o.aE;rw[<-aw.o,<-aN.o]at hF;have ak:Bb cp sg (b.take (k+1))=(r.fs,r.nx):=by
      rw[RK.o,<-aw.o,<-aN.o];unfold LU;rw[<-HR.o,if_pos hc]
     obtain⟨b5,bH⟩:r.cp=cp/\r.sg=sg:=by
      have ht:=S6 o ci.o;rw[<-HR.o]at ht;rcases ht with ht|⟨_,_,t3,t4,_⟩
      .rw[hc]at ht;cases ht
      exact⟨t3,t4⟩
     obtain⟨aS,df,cU,HF,de⟩:=DE ak b5 bH (hF.d M.o) hc;clear hF ak b5 bH hc;go_upto_region 14 with fail;refine ST az.o ?_;intro w8 bp G;have F8:=Aa (HF.o.H az.o G);have bG:=Aa (cW.o.H az.o G);have cK:=Aa ((s.o.st.O (CK.m M.o)).bJ (λk cs _ hk=>G.block k (λe=>by
      subst e;exact Cf hk az.o qh)))
     obtain⟨cg,B8,b4⟩:=AA ((G.block _ bI.y).c bV.o) (show Bw w w8 from(cy.o.thn M.o).c (G.d cS)) (F8.o.dp (o:=o) (a:=ga) (c:=gc) (gs:=r.fs) (nx':=r.nx) ci.o (by rw[HR.o]) (by rw[HR.o]) (by rw[<-HR.o];exact de.o) qd (bk.o o cq.o).cd (bk.o o cq.o).z bG.o);have d0:=AS (L:=[_,_,_,_]) bp (j:=0) rfl;have cP:=Aa bp;clear bp G c0 c1 c2 c3 c4 e0 e1 e2 e3 bZ cE cv b0;go_wp2_with fail;refine b4.o.rtn λw9⟨⟨adr',U',V',n',D',bj,da⟩,aD⟩=>?_;obtain⟨E,cC⟩:=Ah (show fL w N rs A cp sg b k Y.heap.size ga gc sa sc L w9 from⟨⟨adr',U',V',l,n',D',by rw[aS.o];rw[aw.o]at bj;exact bj,qd⟩,by rw[aS.o,<-df.o,<-cU.o];exact aD.kept _ _ _ _ cP.o qh qh,by rw[aS.o];exact bG.o.fn aD,by rw[aS.o];exact cN,cK.o.fn aD,s.o.eq,B8.o.c (aD.low _ bW.o B8.o.size)⟩) (aD.kept _ _ _ _ cg.o qh qh);clear bj da aD b4;go_wp2_with fail;go_meet;exact⟨_,_,E.o,cC.o⟩
    .have c9:(r.am==0)=false:=Nx;have ak:Bb cp sg (b.take (k+1))=Bb cp sg (b.take k):=by
      rw[RK.o,<-aw.o,<-aN.o];unfold LU;rw[<-HR.o,if_neg hc,aw.o,aN.o]
     have E:=Aa (show fL w N rs A cp sg b k Y.heap.size fa fc sa sc L w7 from by
      obtain⟨adr,U,V,l,n,D,hF,hn⟩:=s.o.aE;refine⟨⟨adr,U,V,l,n,D,by rw[ak];exact hF.d M.o,qd⟩,by rw[ak];exact(M.o.block _ (Ak s.o.box)).c s.o.box,by rw[ak];exact s.o.dq.d M.o,by rw[ak];exact s.o.cA,s.o.st.O (CK.m M.o),s.o.eq,cy.o.thn M.o⟩)
     clear hc ak;go_wp2_with fail;go_meet;exact⟨_,_,E.o,bV.o⟩
   case rest=>
    obtain⟨aT,aR,bB,aU⟩:=hcut;obtain⟨E,dj⟩:=Ah bB aU;obtain⟨adr,U,V,l,n,D,hF,hn⟩:=bB.aE;obtain⟨bU,aC⟩:∃fs,fs=(Bb cp sg (b.take (k+1))).1:=⟨_,rfl⟩
    obtain⟨ab,aB⟩:∃nx,nx=(Bb cp sg (b.take (k+1))).2:=⟨_,rfl⟩
    rw[<-aC,<-aB]at hF;have aK:VS bU ab cp sg:=by rw[aC,aB];exact cz.o (k+1)
    obtain⟨dc,cV,aZ,cG,a9⟩:=DE hF aK aC aB (λ(u:World)(W:Bw wc u)=>(hF.d W).cl bn.o aK c8.o);obtain⟨Z,hZ⟩:∃Z,Z=H8 rs A bU:=⟨_,rfl⟩
    rw[<-hZ]at a9;have HZ:=Aa hZ;have c4:=AS (L:=[_,_,_,_,_,_]) aU (j:=4) rfl;have c5:=AS (L:=[_,_,_,_,_,_]) aU (j:=5) rfl;clear bB aU hF aC aB aK hZ;obtain⟨I,rfl⟩:∃v,v=wc:=⟨wc,rfl⟩
    go_upto_region 15 with fail
    go_cut [17] (λsv wx=>sv=Pn I.heap.size/\wx=(I.alloc (.cells #[I6 r.am,I6 r.tag,.slice none 0 0,.slice none 0 0,I6 Z] 42)).drew)
    case first=>
     go_region_held3 (λu=>At u w6.heap.size 4 (I6 r.am)/\At u w6.heap.size 5 (I6 r.tag))
      ((go_split_ands;first|done|(refine⟨?_,?_⟩<;>first|assumption|exact zab An.drew qk|exact zab Aj qk|exact zab Aj.drew qk)))
      (first|(go_at_call 47;refine(a9.o _ (by first|exact An.drew|exact An.drew.alloc AH _)).rtn λdm bS=>?_;subst bS)|fail)
     .exact Zw
     .exact Zw
    case rest=>
     obtain⟨rfl,bv⟩:=hcut;have bu:Bw I wc:=by
      rw[bv];exact Aj.drew
     have bA:wc.heap[I.heap.size]?=some (.cells #[I6 r.am,I6 r.tag,.slice none 0 0,.slice none 0 0,I6 Z] 42 (0,0)):=by
      rw[bv];exact heap_alloc_new _ _
     have bo:=dc.o.d bu;have a0:∀r∈rs,(∀T∈GP r fs,T.length<=3)/\(GP r fs).length<=1000000:=λr hr=>by
      obtain⟨i,hi⟩:=YW hr;obtain⟨adr0,U0,V0,cQ,n0,D0,ax,_⟩:=s.o.aE;rw[<-aw.o,<-aN.o]at ax;obtain⟨m,hm⟩:=ax.aE.at hi;obtain⟨d,_,hX,_⟩:=ax.aE.bg i m r hm hi;have hl:fs.length<=100:=qd;exact⟨λT hT=>((ax.st.dn ax.aE hm hi).2 T hT).1,jX (Sb bn.o hr hX) hX (ax.st.bx.aI ax.st.lk (yd hm)).2.1 hl⟩
     rw[<-aw.o]at bo;obtain⟨a5,aP,cY⟩:=AA (bo.db bn.o cV.o a0) bu bA;have g2:=AS (L:=[_,_,_,_,_]) bA (j:=2) rfl;clear bv bu bA bo a0 a9 c4 c5 c0 c1 c2 c3 e0 e1 e2 e3 bZ cE cv b0 g2;go_wp2_with fail;refine a5.o.j ?_;rintro e bL ⟨pn,qn,pa,qa,pc,qc,rfl,⟨olds',a7⟩,cr,au⟩;have aH:=au _ _ _ _ cY.o;obtain⟨a6,aI,ay,bE⟩:=Bn a7 cr au aH;have fe:∀j,bL.frozen? ⟨I.heap.size,j,none⟩=false:=λj=>by simp[World.frozen?,aH]
     have cX:=fe 2;have cL:=fe 3;have g0:=AS (L:=[_,_,_,_,_]) aH (j:=2) rfl;have g1:=AS (L:=[_,_,_,_,_]) aH (j:=3) rfl;clear a7 cr au aH a5 fe;go_upto_region 17 with fail;refine uy bE.o ?_;intro J af ar;have b8:=Aa (Hn.bh bE.o ar);have dg:=Aa af;have dl:I.heap.size<=wc.heap.size:=aP.o.size;have cR:=Aa E.o.st;have b6:=Aa (show SO J w.heap.size sa sc L from cR.o.bJ λk cs _ hk=>by
      have cf:=Ak hk;rw[ar.block k qd,ay.o _ _ _ _ ((aP.o.block k cf).c hk),hk])
     obtain⟨aq,bY⟩:=Ah (λo=>An.alloc AH o:∀o,Bw J (J.alloc o)) (show Bw w J from((E.o.C.thn aP.o).c (show Below w.heap.size wc bL from⟨aI.o.rest.os,aI.o.rest.tape,aI.o.rest.output,aI.o.rest.size,λg hg=>aI.o.block g (by have:=E.o.C.size;omega) (λ⟨m,hm,hs⟩=>by have h1:=a6.o.st.ok.dz m hm g hs;have h2:=bW.o;omega)⟩)).c (ar.d E.o.C.size));have bK:w.heap.size<=J.heap.size:=bY.o.size;have bf:=Aa b6.o;obtain⟨q0,q1,q2,q3,q4⟩:At J I.heap.size 0 (I6 r.am)/\At J I.heap.size 1 (I6 r.tag)/\At J I.heap.size 2 (.slice pa pn pc)/\At J I.heap.size 3 (.slice qa qn qc)/\At J I.heap.size 4 (I6 Z):=⟨AS (L:=[_,_,_,_,_]) af (j:=0) rfl,AS (L:=[_,_,_,_,_]) af (j:=1) rfl,AS (L:=[_,_,_,_,_]) af (j:=2) rfl,AS (L:=[_,_,_,_,_]) af (j:=3) rfl,AS (L:=[_,_,_,_,_]) af (j:=4) rfl⟩
     have dq:L.length<=60:=by rw[HLK.o];omega
     have dh:=Aa ar;clear af ar g0 g1 cX cL;go_upto_region 18 with(first|(at_builtin;refine CN qi (.tmp 78) (.tmp 80) 34 qi w.heap.size 42 _ 5 72 underlying34 s9 qi qd _ L.length _ qi (AF bf.o (aq.o _)) (some ⟨_,0,none⟩) 1 1 qi (Sw ⟨r.am,r.tag,Z,.slice pa pn pc,.slice qa qn qc⟩) qi (λe=>qo) (Cv _ _ _ _ qG) (by intro u hu;simp[Sw]at hu;rcases hu with rfl|rfl|rfl|rfl|rfl<;>rfl) qj qd qf ?_;intro bc bz bt a4 aL bT)|fail);have aJ:=Aa ((b8.o.c (Hn.m (aq.o _))).c (Hn.ai (AF bf.o (aq.o _)) aL.o));have bF:=Aa (show SO bt w.heap.size bc bz (L++[⟨r.am,r.tag,Z,.slice pa pn pc,.slice qa qn qc⟩]) by simpa[SO] using a4.o);have cI:=Aa (show Bw w bt from((bY.o.c ((aq.o _).j bK)).grown aL.o (yh bK (aq.o _).size) (λg hg=>(bf.o.lt g hg).1)));have cn:=Aa (show fM w N rs A cp sg b (k+1) Y.heap.size aT aR bc bz (L++[⟨r.am,r.tag,Z,.slice pa pn pc,.slice qa qn qc⟩]) bt from⟨⟨adr,U,V,olds',n,D,by rw[<-aZ.o,<-cG.o];exact a6.o.dM aJ.o,hn⟩,aJ.o.kept _ _ (ay.o _ _ _ _ ((aP.o.block _ (Ak E.o.box)).c E.o.box)) (λc' e=>qo),((E.o.dq.d aP.o).O ay.o).dM aJ.o,E.o.cA,bF.o,by
      rw[yF,E.o.eq,HZ.o,aZ.o];unfold Hf;rw[KD,yF];rfl,cI.o⟩)
     clear bT a4 aL;go_wp2_with fail;go_roundw
     case rel=>exact⟨k+1,aT,aR,bc,bz,_,qm,qd,qe,by simp[HLK.o],cn.o⟩
     case measure=>(simp[intOf];omega)
  obtain rfl:k=b.length:=qd;have hy:¬(b.length:Int)<(b.length:Int):=qd;go_wp2_with fail;go_ret;exact⟨sa,sc,L,rfl,s.o.st,s.o.eq,s.o.C⟩
end
end Go.Proofs.YtikojfajahnhgaaGreat
