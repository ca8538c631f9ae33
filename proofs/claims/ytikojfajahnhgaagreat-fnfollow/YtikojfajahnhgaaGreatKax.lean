import Derived.Test.YtikojfajahnhgaaGreatKan
import Derived.Test.YtikojfajahnhgaaGreatKak
set_option linter.all false
set_option maxHeartbeats 3200000
set_option maxRecDepth 100000
namespace Go.Proofs.YtikojfajahnhgaaGreat
open Go.RowKit Go.Proofs.Tryz
attribute [local go_sem ↓] wp_at_zero wp_at_succ
attribute [local simp] At I6 Pn mzI Bk
attribute [local go_sem] At I6 Pn Bk
variable{P:Prop}
def SM:AD->Int
 |some i=>i
 |none=>-1
def gP(a c fs tag w)(hv:Cs w a fs)(hl:fs.length<=1048576) :
  Ca 121 #[.slice a fs.length c,I6 tag] w λe w'=>e=.returned (I6 (SM (Bb tag fs)))/\w'=w:=by
 go_enter func121,ntmps121;go_wp2
 go_loop [8] (λi=>∃(k:Nat),k<=fs.length/\i=I6 k/\Bb tag fs=(Bb tag (fs.drop k)).map (·+k)) (λi=>fs.length-(intOf i).toNat)
 .exact⟨0,qd,rfl,qf⟩
 obtain⟨k,m,rfl,g⟩:=hrel;have HG:=Ad g;clear g;by_cases j:k<fs.length
 .obtain⟨f,O⟩:=Bq j;obtain⟨b,o,rfl,l,_,_,_,_,_⟩:=hv k f O;have d:=Ad (Dx O);cases ht:(f.tag==tag)
  .go_wp2
   go_round
   case rel=>
    refine⟨k+1,qd,qm,?_⟩;rw[HG.o,d.o,Bb,if_neg OK,Option.map_map];congr 1
    funext x
    simp;omega
   case measure=>simp[intOf];omega
  go_wp2;go_ret;refine⟨GT ?_,rfl⟩;rw[HG.o,d.o,Bb,if_pos OK];simp[SM]
 go_wp2;go_ret;refine⟨GT ?_,rfl⟩;exact TM
def VH(a c fs nx cp sg w)(hv:Cs w a fs)(hl:fs.length<=1048576)(l:∀f∈fs,f.v.length<=1048576) :
  Ca 118 #[.agg #[.slice a fs.length c,I6 nx,I6 cp,.bool sg]] w λe w'=>
   (∃b i xs,e=.returned (.agg #[.slice b fs.length i,I6 nx,I6 cp,.bool sg])/\Cg w' w.heap.size (.slice b fs.length i) fs.length fs xs)/\Bw w w':=by
 go_enter func118,ntmps118;go_wp2
 go_region_held3 (λw'=>At w' w.heap.size 0 (.slice a fs.length c)/\At w' w.heap.size 1 (I6 nx)/\At w' w.heap.size 2 (I6 cp)/\At w' w.heap.size 3 (.bool sg)) ((go_split_ands;refine ⟨?_,?_,?_,?_⟩ <;> first | (simp[*,go_sem];done) | exact zab O (by simp[*,go_sem]) | (simp[World.cell?_setCell_other];exact zab O (by simp[*,go_sem]))))
  (first|(go_at_call 177;refine(zmf a c fs _ (hv.e ?_) hl l).j ?_;exact Br.drew;rintro e n ⟨⟨d,g,xs,rfl,k⟩,O⟩;obtain⟨m,o⟩:=AU O))
 go_wp2;refine bodyPost_ret (v:=.agg #[.slice d fs.length g,I6 nx,I6 cp,.bool sg]) (by simp[results,results118,go_sem,m]) rfl ⟨⟨d,g,xs,rfl,?_⟩,?_⟩
 .exact((((k.set qf _).set qf _).set qf _).set qf _).lower qe
 have hB:Bw w n:=Br.drew.c (O.j qe);exact tN
def Ip(tag:Int)(f:F):Bool:=f.tag != tag
structure NW(Z:Nat->Prop) (w0 w:Aa) (v:Value) (n:Nat) (fs:Ab) (xs:Aj):Prop where
 num:n=fs.length
 len:xs.length=fs.length
 aa:w.ownsRow w0.heap.size 145 3 v n (BI fs xs)
 V:∀(i:Nat)(f:F)(x:Value),fs[i]?=some f->xs[i]?=some x->∃a c,x=.slice a f.v.length c/\GU Z w0 a f.v
def NW.at{Z w0 w a n c fs xs}(h:NW Z w0 w (.slice a n c) n fs xs)(l:Bw w0 w):DN (λb=>Z b∨(w0.heap.size<=b/\b<w.heap.size)) w a fs:=by
 intro i f d;have q:i<fs.length:=(yf.1 d).1;have k:xs[i]?=some (xs[i]'(by rw[h.len];exact q)):=yK _;obtain⟨p,r,e,s⟩:=h.V i f _ d k;have key:=λj(hj:j<3)=>Ry fs xs h.len i f _ d k j hj;obtain⟨g,rfl,_,h0,_⟩:=CG h.aa ((key 0 qd).c rfl);obtain⟨t,m,_,h1,_⟩:=CG h.aa ((key 1 qd).c rfl);obtain⟨u,O,_,h2,_⟩:=CG h.aa ((key 2 qd).c rfl);cases m;cases O;rw[e]at h2;exact⟨g,0,.inr (h.aa.lt g rfl),rfl,qK,qx,p,r,qw,(s.kept (λb _ hlt=>l.block b hlt)).j (λb o=>.inl o)⟩
def NW.snoc{Z w0 w w' v e n fs xs f x}(h:NW Z w0 w v n fs xs)(j:∃a c,x=.slice a f.v.length c/\GU Z w0 a f.v)(ho:w'.ownsRow w0.heap.size 145 3 e (n+1) (BI fs xs++Bx f x)):NW Z w0 w' e (n+1) (fs++[f]) (xs++[x]):=by
 refine⟨by simp[h.num],by simp[h.len],jR,?_⟩;intro i g y b d;by_cases hi:i<fs.length
 .rw[yr hi]at b;rw[yr Xt]at d;exact h.V i g y b d
 have O:i<(fs++[f]).length:=(yf.1 b).1;simp at O;obtain rfl:i=fs.length:=qd;rw[yB Bg]at b;rw[yB jS,h.len]at d;simp at b d;subst b;subst d;exact j
def sI(Z a c fs tag w)(E:DN Z w a fs)(hl:fs.length<=1048576) :
  Ca 122 #[.slice a fs.length c,.int .i64 tag] w λe w'=>
   (∃d g xs,e=.returned (.slice d (fs.filter (Ip tag)).length g)/\NW Z w w' (.slice d (fs.filter (Ip tag)).length g) (fs.filter (Ip tag)).length (fs.filter (Ip tag)) xs)/\Bw w w':=by
 go_enter func122,ntmps122;go_wp2
 go_loopw [5,10] (λv i wr=>∃(k n:Nat)(d:Af)(g:Nat)(xs:Aj),k<=fs.length/\n<=k/\i=.int .i64 k/\v=.slice d n g/\NW Z w wr (.slice d n g) n ((fs.take k).filter (Ip tag)) xs/\Bw w wr) (λ_ i _=>fs.length-(intOf i).toNat)
 .exact⟨0,0,none,0,[],qd,qd,rfl,rfl,⟨rfl,rfl,yJ _ _ _ _,λi f x hf=>Qh⟩,Au⟩
 obtain⟨k,n,d,g,xs,N,L,rfl,rfl,p,l⟩:=hrel;have m:=Ad p;by_cases H:k<fs.length
 .obtain⟨f,q⟩:=Bq H;obtain⟨b,o,_,rfl,z,B,s,cs,A,r⟩:=E k f q;have J:=zab l z;have R:=zab l B;have M:=zab l A;have O:w.heap.size<=wr.heap.size:=l.size;cases u:(f.tag != tag)
  .have t:Hid ((fs.take (k+1)).filter (Ip tag)=(fs.take k).filter (Ip tag)):=by
    show _=_;rw[OA fs k f q,yV];simp[Ip,u]
   go_wp2;exact⟨⟨k+1,n,d,g,xs,qd,qd,qm,rfl,by rw[t.o];exact⟨m.num,m.len,m.aa.alloc _,m.V⟩,l.alloc O _⟩,qp⟩
  have t:Hid ((fs.take (k+1)).filter (Ip tag)=(fs.take k).filter (Ip tag)++[f]):=by
   show _=_;rw[OA fs k f q,yV];simp[Ip,u]
  go_wp2_with (at_builtin;refine Dp qh (.tmp 18) (.tmp 20) 25 qh w.heap.size 145 _ 3 48 underlying25 QX qh qd _ n _ qh ((m.aa.alloc _).alloc _) (some ⟨wr.heap.size+1,0,none⟩) 1 1 qh (Bx f (.slice s f.v.length cs)) qh (λe=>qo) (by rw[<-WN];exact RS _ _ _) (RT _ _ _ _) qj qd qe ?_;intro C y G D I K);have hS:=m.snoc (w':=G) ⟨s,cs,rfl,r⟩ D;go_roundw
  case rel=>
   rw[<-t.o]at hS;exact⟨k+1,n+1,C,y,_,qd,qd,qm,rfl,hS,((l.alloc O _).alloc qe _).grown I qe (λj hj=>(m.aa.lt j hj).1)⟩
  case measure=>simp[intOf];omega
 go_wp2;go_ret;obtain rfl:k=fs.length:=qd;rw[yR Bg]at p;obtain rfl:=p.num;exact⟨⟨d,g,xs,rfl,p⟩,l⟩
structure C6 where
 fs:Ab
 nx:Int
 cp:Int
 sg:Bool
 ab:Int
 tag:Int
def C6.ai:C6:=⟨[],0,0,false,1,0⟩
def C6.val(r:C6)(a:Af)(c:Nat):Value:=.agg #[.slice a r.fs.length c,.int .i64 r.nx,.int .i64 r.cp,.bool r.sg,.int .i64 r.ab,.int .i64 r.tag]
def Df(fs:Ab)(nx cp:Int)(sg:Bool)(tag:Int):C6:=
 if CQ fs nx cp sg then(match Bb tag fs with|none=>⟨fs,nx,cp,sg,5,0⟩|some i=>⟨fs.eraseIdx i,nx,cp,sg,0,tag⟩) else C6.ai
def mW{fs nx cp sg tag}(h:CQ fs nx cp sg=false):Df fs nx cp sg tag=C6.ai:=by unfold Df;rw[h];rfl
theorem Vn{fs nx cp sg tag}(h:CQ fs nx cp sg=true)(a:Bb tag fs=none):Df fs nx cp sg tag=⟨fs,nx,cp,sg,5,0⟩:=by unfold Df;rw[h,a];rfl
theorem Vp{fs nx cp sg tag i}(h:CQ fs nx cp sg=true)(a:Bb tag fs=some i):Df fs nx cp sg tag=⟨fs.eraseIdx i,nx,cp,sg,0,tag⟩:=by unfold Df;rw[h,a];rfl
theorem Tg{last}:∀{fs:Ab},CL last fs=true->∀f∈fs,last<f.tag
 |[],_,f,hf=>by simp at hf
 |g::r,h,f,hf=>by
  simp only[CL,Jl,ym,decide_eq_true_eq]at h
  rcases yW.1 hf with rfl|a
  .exact h.1.1
  have:=Tg h.2 f a
  omega
def iA{tag}:∀{fs:Ab}{last:Int}{i:Nat},CL last fs=true->Bb tag fs=some i->fs.filter (Ip tag)=fs.eraseIdx i
 |[],_,_,_,h=>by simp[Bb]at h
 |f::r,last,i,hg,h=>by
  have O:CL f.tag r=true:=by simp only[CL,ym]at hg;exact hg.2
  unfold Bb at h
  by_cases a:f.tag=tag
  .rw[if_pos a]at h
   cases h
   rw[List.filter_cons,List.eraseIdx_zero]
   have:Ip tag f=false:=by simp[Ip,a]
   rw[this]
   simp only[Yx,if_false,List.tail_cons]
   rw[Yp]
   intro g b
   have:=Tg O g b
   simp[Ip]
   omega
  rw[if_neg a]at h
  obtain⟨j,hj,rfl⟩:=Ye.1 h
  rw[List.filter_cons,Y9]
  have:Ip tag f=true:=by simp[Ip,a]
  rw[this,if_pos rfl,iA O hj]
def Tq{fs nx cp sg}(h:CQ fs nx cp sg=true):CL 0 fs=true:=by
 simp only[CQ,Hn,ET,ym]at h;exact h.1.2.2.2.1.2
def SS{tag}:∀{fs:Ab}{i:Nat},Bb tag fs=some i->i<fs.length:=by intro fs;induction fs<;>grind[Bb,Option.map_eq_some_iff]
def ir(h:P:=by have hB:Bw w w1:=Br.thn O;exact(((((hB.setCell (by simp) _).setCell (by simp) _).setCell (by simp) _).setCell (by simp) _).setCell (by simp) _).setCell (by simp) _):=h
def sF(a c fs nx cp sg tag w)(hv:Cs w a fs)(C:fs.length<=c)(hl:fs.length<=1048576)(q:∀f∈fs,A6 f) :
  Ca 61 #[.agg #[.slice a fs.length c,I6 nx,I6 cp,.bool sg],I6 tag] w λe w'=>
   (∃K M,e=.returned ((Df fs nx cp sg tag).val K M)/\DN (λb=>w.heap.size<=b) w' K (Df fs nx cp sg tag).fs/\(Df fs nx cp sg tag).fs.length<=M)/\Bw w w':=by
 have aQ:w.heap.size<w.heap.size+1+1:=qd;have m:∀f∈fs,f.v.length<=1048576:=λf hf=>(q f hf).2.1;cases z:CQ fs nx cp sg
 .rw[mW z];go_enter func61,ntmps61;go_wp2_with (go_at_call 115;refine(ML a c fs nx cp sg _ (hv.e Br) C hl q).rtn λw1 O=>?_;obtain⟨n,L⟩:=AU O);refine bodyPost_ret (v:=C6.ai.val none 0) (by simp[results,results61,go_sem,n,C6.val,C6.ai]) rfl ⟨⟨none,0,rfl,λi f hf=>OH,yn _⟩,?_⟩;exact ir
 cases l:Bb tag fs with
 |none=>
  rw[Vn z l];have U:SM (Bb tag fs) = -1:=by rw[l];rfl
  go_enter func61,ntmps61;go_wp2_with (go_at_call 115;refine(ML a c fs nx cp sg _ (hv.e Br) C hl q).rtn λw1 O=>?_;obtain⟨n,L⟩:=AU O);have g:Bw w w1:=Br.thn O;have p:w.heap.size+1<w1.heap.size:=by have:=O.size;simp at this;omega
  refine(VH a c fs nx cp sg w1 (hv.e g) hl m).j ?_;rintro e d ⟨⟨r,x,aK,rfl,s⟩,k⟩;have ai:Bw w d:=g.thn k;obtain⟨B,aF⟩:=AU k;have A:w.heap.size+1<d.heap.size:=yg p k.size;have aD:w.heap.size<d.heap.size:=qd;have aE:w.heap.size<w1.heap.size:=qd;have E:=hv.e ai;go_wp2_with (go_at_call 121;refine(gP a c fs tag _ (E.e ?_) hl).j ?_;exact Ar;rintro e w3 ⟨rfl,rfl⟩);refine bodyPost_ret (v:=C6.val ⟨fs,nx,cp,sg,5,0⟩ r x) (by simp[results,results61,go_sem,n,B,C6.val,p,A]) rfl ⟨⟨r,x,rfl,?_,PA s.aa⟩,?_⟩
  .exact(((((((s.set qe _).set qe _).set qe _).set qe _).set qe _).set qe _).dy _).on.j λb N=>yi g.size N.1
  .exact((((((ai.setCell qf _).setCell qf _).setCell qf _).setCell qf _).setCell qf _).setCell qf _).alloc (by simp[World.setCell];omega) _
 |some i=>
  rw[Vp z l];have aG:=iA (Tq z) l;have U:SM (Bb tag fs)=(i:Int):=by rw[l];rfl
  have I:=Ad aG;go_enter func61,ntmps61;go_wp2_with (go_at_call 115;refine(ML a c fs nx cp sg _ (hv.e Br) C hl q).rtn λw1 O=>?_;obtain⟨n,L⟩:=AU O);have g:Bw w w1:=Br.thn O;have p:w.heap.size+1<w1.heap.size:=by have:=O.size;simp at this;omega
  refine(VH a c fs nx cp sg w1 (hv.e g) hl m).j ?_;rintro e d ⟨⟨r,x,aK,rfl,s⟩,k⟩;have ai:Bw w d:=g.thn k;obtain⟨B,aF⟩:=AU k;have A:w.heap.size+1<d.heap.size:=yg p k.size;have aD:w.heap.size<d.heap.size:=qd;have aE:w.heap.size<w1.heap.size:=qd;have E:=hv.e ai;have hZ:=λo=>(s.on.kept (w':=d.alloc o) (λb _ hlt=>yN _ _ _ hlt))
  go_wp2_with (first|(go_at_call 121;refine(gP a c fs tag _ (E.e ?_) hl).j ?_;exact Ar;rintro e w3 ⟨rfl,rfl⟩)|(go_at_call 122;refine(sI _ r x fs tag _ (hZ _) hl).j ?_;rintro e G ⟨⟨J,H,aN,rfl,D⟩,t⟩;obtain⟨aJ,aR⟩:=AU t));rw[I.o]at D;have aM:d.heap.size<G.heap.size:=by have:=t.size;simp at this;omega
  have aS:w.heap.size+1<G.heap.size:=qd;obtain⟨hE,Y⟩:=An (D.at t) (PA D.aa);have aH:w.heap.size+1<d.heap.size+1:=qd;have aO:¬w.heap.size+1=d.heap.size:=qd;have aP:¬d.heap.size=w.heap.size+1:=qd;refine bodyPost_ret (v:=C6.val ⟨fs.eraseIdx i,nx,cp,sg,0,tag⟩ J H) (by simp[results,results61,go_sem,n,B,aJ,C6.val,p,A,aH,I.o]) rfl ⟨⟨J,H,rfl,?_,Y⟩,?_⟩
  .refine DN.j (hE.kept ?_) (λb y=>by have:=ai.size;have:=g.size;simp at y;omega);intro b y hlt;have W:b≠d.heap.size:=by simp at y hlt;omega
   have T:b≠w.heap.size+1:=by simp at y hlt;omega
   have R:∀(v:Aa)o u,(v.setCell ⟨d.heap.size,o,none⟩ u).heap[b]?=v.heap[b]?:=λv o u=>yD _ _ _ _ W;have k2:∀(v:Aa)o u,(v.setCell ⟨w.heap.size+1,o,none⟩ u).heap[b]?=v.heap[b]?:=λv o u=>yD _ _ _ _ T;simp only[R,k2]
  have Z:Bw w G:=(ai.alloc qd _).c (t.j qe);exact((((((Z.setCell qe _).setCell qf _).setCell qf _).setCell qf _).setCell qf _).setCell qf _).setCell qf _
section
open Go.Maps
def H9.stop{c fs k D}(h:H9 c fs k D)(d:k<=fs.length)(f:fs.length<=k):(((Maps.size D:Nat):Int)==(fs.length:Int))=decide ((fs.map Cd).Nodup):=by
 obtain rfl:k=fs.length:=qd;have b:=h.iff;rw[yR Bg]at b;by_cases a:(fs.map Cd).Nodup
 .rw[decide_eq_true a];have:=b.2 a;simp[this]
 rw[decide_eq_false a];have:Maps.size D≠fs.length:=λe=>a (b.1 e);simp;omega
def zjs{H w w' P k R b n B}{D:DataW H}(h:w.ownsMap P k R b n D)(d:Below B w w')(e:b<B):w'.ownsMap P k R b n D:=by
 obtain⟨es,a,f,g⟩:=h;exact⟨es,a,(d.block b e).c f,g⟩
def sG(a c fs w)(hv:Cs w a fs)(hl:fs.length<=40)(C:∀f∈fs,Ib f)(M:∀f∈fs,(Lit.int .i64 f.tag).wf=true) :
  Ca 255 #[.slice a fs.length c] w λe w'=>
   e=.returned (.bool (decide ((fs.map Cd).Nodup)))/\Bw w w':=by
 obtain⟨x,K⟩:=KL.bP;have W:=iO (P:=prog) (t:=398) underlying398;go_enter func255,ntmps255;go_wp2
 go_loopw [11] (λi wr=>∃(k:Nat)(D:DataW Unit),k<=fs.length/\i=.int .i64 k/\wr.ownsMap prog 382 (plainElem prog 3) w.heap.size k D/\H9 x fs k D/\Bw w wr) (mz fs.length)
 .exact⟨0,.map [],qd,rfl,Wl _ _ _ _,H9.start x fs,Ar⟩
 obtain⟨k,D,A,rfl,g,q,n⟩:=hrel;by_cases L:k<fs.length
 .obtain⟨f,O⟩:=Bq L;obtain⟨b,o,rfl,N,T,s,cs,R,p⟩:=hv.e n k f O;have l:=C f (yd O);have B:=M f (yd O);go_wp2;have z:Hid (wr.ownsMap prog 382 (plainElem prog 3) w.heap.size k D):=g;have Y:w.heap.size<wr.heap.size:=g.lt
  go_region_held3 (λw'=>At w' wr.heap.size 0 (.int .i64 f.tag)/\At w' wr.heap.size 1 (.string f.E)/\At w' wr.heap.size 2 (.slice s f.v.length cs)) ((go_split_ands;refine ⟨?_,?_,?_⟩ <;> first | (simp[*,go_sem];done) | exact zab d (by simp[*,go_sem]) | exact m.cell (zab d (by simp[*,go_sem])) qe))
   (first|(go_at_call 257;refine(ZC f s cs _ (p.e ?_) l.2.1).j ?_;exact Ar.drew;rintro e w' ⟨rfl,d⟩;obtain⟨G,U,y,r⟩:=(zjs (z.alloc _).drew d qe).update NE (t:=398) underlying398 qj (K f l) (plainElem_int underlying3 B);have I:=Ad y;have m:=Ad r;clear y r))
  have H:Bw w G:=(n.c ((Ar.drew.c (d.j qf)).j n.size)).grown m (by have:=d.size;simp at this;omega) (λj hj=>by cases hj;exact yA _);have J:=q.step K (z.tidy NE) O l (.lit (.int .i64 f.tag));go_wp2;exact⟨⟨k+1,_,qd,qm,I,J,H⟩,qe⟩
 have u:=λty=>g.len (t:=398) underlying398 ty;go_wp2;go_ret;exact⟨Ba (q.stop A qd),n⟩
end
def YM{fs last}(d:∀f∈fs,A6 f)(e:∀f∈fs,Do f)(c:CL last fs=true):∀f∈fs,Ib f:=by
 induction fs generalizing last with
 |nil=>intro f b;simp at b
 |cons g r O=>
  intro f b;simp only[CL,Jl,DO,ym,decide_eq_true_eq]at c;rcases yW.1 b with rfl|i
  .exact⟨(d f qf).1,c.1.2.2.2.1,(e f qf).2⟩
  exact O (λx a=>d x (by simp[a])) (λx a=>e x (by simp[a])) c.2 f i
def zqU(a c fs nx cp sg w)(hv:Cs w a fs)(hl:fs.length<=1048576)(o:∀f∈fs,A6 f)(m:Hn fs nx cp=false) :
  Ca 213 #[.agg #[.slice a fs.length c,I6 nx,I6 cp,.bool sg]] w λe w'=>
   e=.returned (.bool (Oi fs nx cp sg))/\Bw w w':=by
 have l:Hid (Oi fs nx cp sg=false):=by unfold Oi;rw[m];exact rfl
 have O:cp<0∨(0<=cp/\40<cp)∨(0<=cp/\cp<=40/\cp<fs.length)∨(0<=cp/\cp<=40/\(fs.length:Int)<=cp/\nx<1)∨(0<=cp/\cp<=40/\(fs.length:Int)<=cp/\1<=nx/\1000001<nx)∨(0<=cp/\cp<=40/\(fs.length:Int)<=cp/\1<=nx/\nx<=1000001/\ET fs=false):=by
  rcases rt fs nx cp m with h|h|h|⟨b,d,g,k⟩|⟨b,d,g,_,j⟩|⟨b,d,g,_,j,n⟩
  .omega
  .omega
  .omega
  .by_cases j:nx<1
   .omega
   by_cases n:1000001<nx
   .omega
   exact .inr (.inr (.inr (.inr (.inr ⟨b,d,g,qd,qd,k⟩))))
  .omega
  omega
 rcases O with b|⟨b,d⟩|⟨b,d,g⟩|⟨b,d,g,k⟩|⟨b,d,g,k,j⟩|⟨b,d,g,k,j,n⟩
 all_goals
  go_enter func213,ntmps213;go_wp2_with (go_at_call 107;refine(iI a c fs _ (hv.e Ar) hl o).rtn λw' i=>?_;obtain⟨p,q⟩:=AU i);go_ret
  first
  |exact⟨Ba l.z,Ar⟩
  |exact⟨Ba l.z,Ar.thn i⟩
section
open Go.Maps
def xE{k:Nat}(h:k<=1048576):(Lit.int .i64 (k:Int)).wf=true:=by
 exact uT
end
def zoB(a c fs nx cp sg w)(hv:Cs w a fs)(t:∀f∈fs,A6 f)(v:∀f∈fs,Do f)(g:Hn fs nx cp=true) :
  Ca 213 #[.agg #[.slice a fs.length c,.int .i64 nx,.int .i64 cp,.bool sg]] w λe w'=>
   e=.returned (.bool (Oi fs nx cp sg))/\Bw w w':=by
 have HR:Hid (Oi fs nx cp sg=(Re nx fs&&(!sg||decide ((fs.map Cd).Nodup)))):=by unfold Oi;rw[g];exact rfl
 obtain⟨L,H,N,z,A,C⟩:0<=cp/\cp<=40/\(fs.length:Int)<=cp/\ET fs=true/\1<=nx/\nx<=1000001:=by
  unfold Hn at g;simpa[ym] using g
 have G:∀f∈fs,Ib f:=YM (last:=0) t v (by simp only[ET,ym]at z;exact z.2);clear g;go_enter func213,ntmps213;go_wp2_with (go_at_call 107;refine(iI _ c fs _ (hv.e Ar) qd t).rtn λw' d=>?_;obtain⟨i,hf⟩:=AU d);have K:w'.cell? ⟨w.heap.size,0,none⟩=some (.slice a fs.length c):=by rw[i _ _ qf];simp[go_sem]
 have B:w'.cell? ⟨w.heap.size,1,none⟩=some (.int .i64 nx):=by rw[i _ _ qf];simp[go_sem]
 have U:w'.cell? ⟨w.heap.size,3,none⟩=some (.bool sg):=by rw[i _ _ qf];simp[go_sem]
 have j:Bw w w':=Ar.thn d;clear i hf d L H A C;cases af:fs.getLast? with
 |none=>
  obtain rfl:fs=[]:=Sa;clear af
  go_quiet (fail)
  have O:Bw w (w'.drewN nq):=below_drewN j _;have n:=hv.e O;clear hv;cases sg
  all_goals
   go_wp2_with (go_at_call 255;refine(sG a c [] _ n qf (λf hf=>Qh) (λf hf=>Qh)).rtn λJ q=>?_);go_ret
  .exact⟨Ba (by rw[HR.o];rfl),O⟩
  .exact⟨Ba (by rw[HR.o];rfl),O.thn q⟩
 |some l=>
  obtain⟨m,u⟩:∃m,fs.length=m+1:=⟨fs.length-1,by cases fs with|nil=>simp at af|cons x r=>simp⟩
  have I:fs[m]?=some l:=by rw[WZ,u]at af;simpa using af
  obtain⟨b,o,rfl,s,_,_,_,_,_⟩:=(hv.e j) m l I;have y:w'.cell? ⟨b,o+(fs.length-1)*3,none⟩=some (.int .i64 l.tag):=by
   rw[show fs.length-1=m by omega];exact s
  have D:(0:Int)<=(fs.length:Int)-1:=qd;have E:(fs.length:Int)-1<(fs.length:Int):=qd;have W:(0:Int)<(fs.length:Int):=qd;have R:(1:Int)<=(fs.length:Int):=qd;clear s u;have Y:decide (0<fs.length)=true:=by simp;omega
  have M:IntKind.i64.wrap ((fs.length:Int)-1)=(fs.length:Int)-1:=by rw[Yh];omega
  go_region_held3 (λk=>k.cell? ⟨w.heap.size,0,none⟩=some (.slice (some ⟨b,o,none⟩) fs.length c)/\k.cell? ⟨w.heap.size,1,none⟩=some (.int .i64 nx)/\k.cell? ⟨b,o+(fs.length-1)*3,none⟩=some (.int .i64 l.tag)) ((exact⟨K,B,y⟩)) (fail)
  have O:Bw w w'.drew:=j.drew;have n:=hv.e O;have HL:Hid (Re nx fs=decide (l.tag<nx)):=by unfold Re;rw[af];exact rfl
  clear hv y M D E;by_cases T:nx<=l.tag
  .go_wp2;go_ret;exact⟨Ba (by rw[HR.o,HL.o,decide_eq_false qd];rfl),O⟩
  cases sg
  all_goals
   go_wp2_with (go_at_call 255;refine(sG (some ⟨b,o,none⟩) c fs _ n qd G (λf hf=>(v f hf).1)).rtn λJ q=>?_);go_ret
  .exact⟨Ba ul,O⟩
  exact⟨Ba ul,O.thn q⟩
def MM(a c fs nx cp sg w)(hv:Cs w a fs)(hl:fs.length<=1048576)(d:∀f∈fs,A6 f)(g:∀f∈fs,Do f) :
  Ca 213 #[.agg #[.slice a fs.length c,I6 nx,I6 cp,.bool sg]] w λe w'=>
   e=.returned (.bool (CQ fs nx cp sg))/\Bw w w':=by
 rw[<-zqH];cases b:Hn fs nx cp
 .exact zqU a c fs nx cp sg w hv hl d b
 exact zoB a c fs nx cp sg w hv d g b
section
open Go.Deep
section
variable {H : Type} {enc : TypeId × Value -> H} {w : Aa} {base : Nat} {spare : Nat -> Bool} {held : Bool}
end
end
structure Mk(S:Nat->Prop) (w w':Aa):Prop where
 rest:Below 0 w w'
 block:∀g,g<w.heap.size->¬S g->w'.heap[g]?=w.heap[g]?
def Mk.refl(S w):Mk S w w:=⟨Au,λ_ _ _=>rfl⟩
def Mk.c{S a b c}(h:Mk S a b)(k:Mk S b c):Mk S a c:=
 ⟨h.rest.c k.rest,λg e d=>(k.block g (yg e h.rest.size) d).c (h.block g e d)⟩
def Mk.set{S w p}(a:S p.block)(u):Mk S w (w.setCell p u):=
 ⟨Au.setCell (yn _) _,λ_ _ b=>yD _ _ _ _ (λe=>b (e▸a))⟩
theorem Mk.e{S w w' B}(h:Mk S w w')(b:B<=w.heap.size)(a:∀g,S g->B<=g):Below B w w':=
 ⟨h.rest.os,h.rest.tape,h.rest.output,h.rest.size,λk c=>h.block k qd (λhS=>by have:=a k hS;omega)⟩
def zlz(fs gs xs ys)(h:xs.length=fs.length):BI (fs++gs) (xs++ys)=BI fs xs++BI gs ys:=by grind[BI,Bx]
def Cg.dV{w w' base B v o u n m fs gs xs ys}(h:Cg w base v n fs xs)(hlt:∀g,SG v xs g->g<B)(hu:Cg w B u m gs ys)(D:base<=B)(A:w'.ownsRow base 145 3 o (n+m) (BI fs xs++BI gs ys))(x:w.grownBy w' v.ownBlock)(hl:o.ownBlock=v.ownBlock∨o.ownBlock=some w.heap.size):Cg w' base o (n+m) (fs++gs) (xs++ys):=by
 have p:∀y∈xs,∀g,y.ownBlock=some g->g<w.heap.size/\v.ownBlock≠some g/\g<B:=λy b g O=>⟨(h.range (.inr ⟨y,b,O⟩)).2,λe=>h.apart y b g e O,hlt g (.inr ⟨y,b,O⟩)⟩
 have b:∀y∈ys,∀g,y.ownBlock=some g->g<w.heap.size/\v.ownBlock≠some g/\B<=g:=λy b g O=>by
  have t:=hu.range (.inr ⟨y,b,O⟩);exact⟨t.2,λe=>by have:=hlt g (.inl e);omega,t.1⟩
 have s:∀y:Value,y∈xs++ys->∀g,y.ownBlock=some g->g<w.heap.size/\v.ownBlock≠some g/\w'.heap[g]?=w.heap[g]?:=by
  intro y a g O;have:g<w.heap.size/\v.ownBlock≠some g:=by
   rcases yp.1 a with a|a
   .exact⟨(p y a g O).1,(p y a g O).2.1⟩
   exact⟨(b y a g O).1,(b y a g O).2.1⟩
  exact⟨this.1,this.2,x.block g this.1 (λe=>this.2 e.z)⟩
 refine⟨by simp[h.num,hu.num],by simp[h.len,hu.len],by rw[zlz fs gs xs ys h.len];exact A,?_,?_,?_⟩
 .intro i f y l d;by_cases hi:i<fs.length
  .rw[yr hi]at l;have r:=d;rw[yr Xt]at d;obtain⟨k,j⟩:=h.V i f y l d;exact⟨k,Ci j (λg O=>(s y (yd r) g O).2.2)⟩
  rw[yB qd]at l;have r:=d;rw[yB (by rw[h.len];omega),h.len]at d;obtain⟨k,j⟩:=hu.V _ f y l d;exact⟨k,C4 (Ci j (λg O=>(s y (yd r) g O).2.2)) D⟩
 .intro y a g q O;obtain⟨k,j,_⟩:=s y a g O;rcases hl with hl|hl
  .exact j (hl.z.c q)
  rw[hl]at q;cases q;omega
 rw[YA];refine⟨h.bj,hu.bj,λy a z E g O C=>?_⟩;have k:=(p y a g O).2.2;have j:=(b z E g C).2.2;omega
def Cg.ak{w base n c a fs xs}(h:Cg w base (.slice a n c) n fs xs):∀b,a=some b->∀j u,(BI fs xs)[j]?=some u->w.cell? (b.add j)=some u:=by
 intro b e j u hu;obtain⟨g,d,_,f,_⟩:=CG h.aa hu;rw[e]at d;cases d;rw[Wu,Yj];exact f
def Cg.eC{w base n c a fs xs}(h:Cg w base (.slice a n c) n fs xs):a=none->n=0:=by
 intro e;subst e;have:=h.num;cases fs with
 |nil=>simpa using this
 |cons f r=>
  have b:=Z9 (f::r) xs h.len;have O:(BI (f::r) xs)[0]?=some ((BI (f::r) xs)[0]'(by rw[b];simp)):=yK _;obtain⟨g,d,_⟩:=CG h.aa O;cases d
def Cg.one{w base n v fs xs}(h:Cg w base v n fs xs):∀u∈BI fs xs,u.oneCell'=true:=by
 intro u hu;unfold BI at hu;obtain⟨p,d,hu⟩:=Yq.1 hu;obtain⟨i,b,f⟩:=Wd d;have k:(fs.zip xs)[i]?=some p:=by rw[yK b,f]
 obtain⟨g,j⟩:=K2.1 k;obtain⟨⟨a,c,e⟩,_⟩:=h.V i _ _ g j;rw[e]at hu;exact RT _ _ _ _ u hu
def Cs.take{w a fs}(h:Cs w a fs)(k):Cs w a (fs.take k):=by simp_all[V,Cj,Cs,YW]
theorem Cs.drop{w b o fs}(h:Cs w (some ⟨b,o,none⟩) fs)(k):Cs w (some ⟨b,o+k*3,none⟩) (fs.drop k):=λi f a=>by
 rw[KX]at a;obtain⟨O,o',c,g,j,d⟩:=h _ f a;cases c;have e:o+k*3+i*3=o+(k+i)*3:=qd;exact⟨b,o+k*3,rfl,by rw[e];exact g,by rw[e];exact j,by rw[e];exact d⟩
def rh(a c fs nx cp sg w)(hv:Cs w a fs)(hl:fs.length<=1048576)(l:∀f∈fs,f.v.length<=1048576) :
  Ca 217 #[.agg #[.slice a fs.length c,I6 nx,I6 cp,.bool sg]] w λe w'=>
   (∃b i xs,e=.returned (.agg #[.slice b fs.length i,I6 nx,I6 cp,.bool sg])/\Cg w' w.heap.size (.slice b fs.length i) fs.length fs xs)/\Bw w w':=by
 have p:w.heap.size<w.heap.size+1+1:=qd;go_enter func217,ntmps217;go_wp2_with (go_at_call 258;refine(rx a c fs _ (hv.e Br) hl l).j ?_;rintro e o ⟨⟨d,g,xs,rfl,k⟩,O⟩;obtain⟨n,q⟩:=AU O);refine bodyPost_ret (v:=.agg #[.slice d fs.length g,I6 nx,I6 cp,.bool sg]) (by simp[results,results217,go_sem,n]) rfl ⟨⟨d,g,xs,rfl,?_⟩,?_⟩
 .exact(((((k.set qe _).set qf _).set qf _).set qf _).set qf _).lower qe
 have m:Bw w o:=Br.thn O;exact((((m.setCell qf _).setCell qf _).setCell qf _).setCell qf _).setCell qf _
def PG(a c fs nx cp sg code tag w)(hv:Cs w a fs)(hl:fs.length<=1048576)(l:∀f∈fs,f.v.length<=1048576) :
  Ca 216 #[.agg #[.slice a fs.length c,I6 nx,I6 cp,.bool sg],I6 code,I6 tag] w λe w'=>
   (∃b i xs,e=.returned (C6.val ⟨fs,nx,cp,sg,code,tag⟩ b i)/\Cg w' w.heap.size (.slice b fs.length i) fs.length fs xs)/\Bw w w':=by
 have n:w.heap.size<w.heap.size+1+1:=qd;go_enter func216,ntmps216;go_wp2_with (go_at_call 217;refine(rh a c fs nx cp sg _ (hv.e Br) hl l).j ?_;rintro e w1 ⟨⟨d,g,xs,rfl,k⟩,O⟩;obtain⟨m,o⟩:=AU O);refine bodyPost_ret (v:=C6.val ⟨fs,nx,cp,sg,code,tag⟩ d g) (by simp[results,results216,go_sem,m,C6.val]) rfl ⟨⟨d,g,xs,rfl,?_⟩,?_⟩
 .exact((((((k.set qf _).set qf _).set qf _).set qf _).set qf _).set qf _).lower qe
 exact ir
def vW{B W a}(c:Below B W a):(∀b o,b<B->a.cell? ⟨b,o,none⟩=W.cell? ⟨b,o,none⟩)/\(∀b o,b<B->a.frozen? ⟨b,o,none⟩=W.frozen? ⟨b,o,none⟩):=
 ⟨λb o h=>c.cell (p:=⟨b,o,none⟩) h,λb o h=>c.frozen (p:=⟨b,o,none⟩) h⟩
def sC(n a c fs w)(g:fs.length=n)(hv:Cs w a fs)(hl:n<=1048576)(i:∀f∈fs,f.v.length<=1048576) :
  Ca 258 #[.slice a n c] w λe w'=>
   (∃d b xs,e=.returned (.slice d n b)/\Cg w' w.heap.size (.slice d n b) n fs xs)/\Bw w w':=by
 subst g;exact rx a c fs w hv hl i
def pG(a c fs nx cp sg i w)(hv:Cs w a fs)(hc:fs.length<=c)(hl:fs.length<=1048576)(x:∀f∈fs,f.v.length<=1048576)(A:i<fs.length) :
  Ca 219 #[.agg #[.slice a fs.length c,I6 nx,I6 cp,.bool sg],I6 i] w λe w'=>
   (∃J K xs,e=.returned (.agg #[.slice J (fs.eraseIdx i).length K,I6 nx,I6 cp,.bool sg])/\Cg w' w.heap.size (.slice J (fs.eraseIdx i).length K) (fs.eraseIdx i).length (fs.eraseIdx i) xs)/\Bw w w':=by
 have aR:w.heap.size<w.heap.size+1+1:=qd;obtain⟨M,aA⟩:=Bq A;obtain⟨b,o,rfl,_⟩:=hv i M aA;have aK:=λo' aH=>(hv.e (NP o' aH)).take i;have hlt:(fs.take i).length=i:=by simp;omega
 go_enter func219,ntmps219;go_wp2_with fail;refine(sC i _ c (fs.take i) _ hlt (aK _ _) qd (λf k=>x f (Wv k))).j ?_;rintro e d ⟨⟨a1,c1,L,rfl,U⟩,s⟩;obtain⟨aD,aO⟩:=AU s;have B:Bw w d:=Br.thn s;have aG:=(hv.e B).drop (i+1);have D:=Ad U;have u:w.heap.size+1+1<=d.heap.size:=by have:=s.size;simpa using this
 have E:(fs.drop (i+1)).length=fs.length-(i+1):=qf;have aL:∀f∈fs.drop (i+1),f.v.length<=1048576:=λf k=>x f (List.mem_of_mem_drop k);have R:fs.take i++fs.drop (i+1)=fs.eraseIdx i:=(List.eraseIdx_eq_take_drop_succ fs i).z;have l:i+(fs.length-(i+1))=(fs.eraseIdx i).length:=by rw[KG,if_pos A];omega
 obtain⟨T,I⟩:=An R l;go_wp2_with fail
 all_goals
  refine(sC (fs.length-(i+1)) _ _ (fs.drop (i+1)) d E (by first|exact aG|(have:fs.drop (i+1)=[]:=yH qd;rw[this];intro i f k;simp at k)) qd aL).j ?_;rintro e r ⟨⟨a2,c2,C,rfl,ax⟩,m⟩;obtain⟨Y,aN⟩:=AU m;have aJ:=D.e m;have n:Bw w r:=B.thn m;obtain⟨O,p⟩:=An ax aJ;have aP:w.heap.size<d.heap.size:=qd;have az:w.heap.size+1<d.heap.size:=qd;have aE:w.heap.size+1+1<=r.heap.size:=yi u m.size;have N:=Ad (λg(W:SG (.slice a1 i c1) L g)=>(D.range W).2);go_wp2_with (at_builtin;refine Dp qh (.tmp 11) (.tmp 17) 25 qh (w.heap.size+1+1) 145 _ 3 48 underlying25 QX qh qd _ i _ qh (C4 p.aa qf) a2 (fs.length-(i+1)) c2 qh (BI (fs.drop (i+1)) C) (by rw[Z9 _ _ O.o.len,E]) O.eC O.ak O.one qj qd qd ?_;intro G y q Z H ay;have t:Below (w.heap.size+1+1) r q:=Au.grown H aE (λj hj=>by have:=(p.aa.lt j hj).1;simpa using this);obtain⟨aF,aQ⟩:=vW t);have hS:=(p.lower (base':=w.heap.size+1+1) qf).dV N O u Z H ay;rw[T.o,I.o]at hS;have aM:w.heap.size<q.heap.size:=by have:=t.size;omega
  refine bodyPost_ret (v:=.agg #[.slice G (fs.eraseIdx i).length y,I6 nx,I6 cp,.bool sg]) (by simp[results,results219,go_sem,aD,Y,aF,az,I.o]) rfl ⟨⟨G,y,L++C,rfl,?_⟩,?_⟩
  .exact(((((hS.set qe _).set qf _).set qf _).set qf _).set qf _).lower qd
  have hB:Bw w q:=n.c (t.j qd);exact((((hB.setCell qf _).setCell qf _).setCell qf _).setCell qf _).setCell qf _
section
open Go.Maps
def Qc{w:Aa}{b r t}(h:Bk w b r t)(g:r.size=6):∃x0 x1 f d e O,At w b 0 x0/\At w b 1 x1/\At w b 2 f/\At w b 3 d/\At w b 4 e/\At w b 5 O /\
  w.frozen? ⟨b,0,none⟩=false/\w.frozen? ⟨b,1,none⟩=false/\w.frozen? ⟨b,2,none⟩=false/\w.frozen? ⟨b,3,none⟩=false/\w.frozen? ⟨b,4,none⟩=false/\w.frozen? ⟨b,5,none⟩=false:=by
 have a:∀j(hj:j<6),At w b j (r[j]'(by omega)):=λj hj=>by simp[World.cell?,h,show j<r.size by omega]
 have c:∀j,w.frozen? ⟨b,j,none⟩=false:=λj=>by simp[World.frozen?,h]
 exact⟨_,_,_,_,_,_,a 0 qd,a 1 qd,a 2 qd,a 3 qd,a 4 qd,a 5 qd,c _,c _,c _,c _,c _,c _⟩
def zaM{w:Aa}{b o x}(h:w.cell? ⟨b,o,none⟩=some x){q}(c:b≠q.block)(u):(w.setCell q u).cell? ⟨b,o,none⟩=some x:=by
 rw[<-h];exact yP (a:=⟨b,o,none⟩) (yD _ _ _ _ c)
def zcF{w:Aa}{p x}(h:w.cell? p=some x):w.drew.cell? p=some x:=h
def C6.cells(r:C6)(a:Af)(c:Nat):Aj:=[.slice a r.fs.length c,.int .i64 r.nx,.int .i64 r.cp,.bool r.sg,.int .i64 r.ab,.int .i64 r.tag]
def C6.one(r:C6)(a c):∀v∈r.cells a c,v.oneCell'=true:=by
 intro v hv;simp only[C6.cells,yW,Yw,or_false]at hv;rcases hv with rfl|rfl|rfl|rfl|rfl|rfl<;>rfl
def IW:(prog.info? 87).map (·.size)=some 6:=qg
def C6.load{w b}{r:C6}{a c d}(h:w.heap[b]?=some (.cells (r.cells a c).toArray 87 d)):(loadVar 87 ⟨b,0,none⟩).run prog w=.ok (r.val a c) w:=
 run_loadVar_mid (P:=prog) w b 0 87 (r.cells a c) _ (Nh h) underlying87 rfl IW
def zmu(a c fs nx cp sg E tag sa n sc w)(hv:Cs w a fs)(hc:fs.length<=c)(hl:fs.length<=1048576)(A:∀f∈fs,A6 f)(y:∀f∈fs,Do f)(Z:(Lit.int .i64 tag).wf=true) :
  Ca 158 #[.agg #[.slice a fs.length c,.int .i64 nx,.int .i64 cp,.bool sg],.agg #[.string E,.int .i64 tag,.slice sa n sc]] w λe w'=>
   (∃a' c' xs,e=.returned ((Df fs nx cp sg tag).val a' c')/\Cg w' w.heap.size (.slice a' (Df fs nx cp sg tag).fs.length c') (Df fs nx cp sg tag).fs.length (Df fs nx cp sg tag).fs xs)/\Bw w w':=by
 have x:∀f∈fs,f.v.length<=1048576:=λf hf=>(A f hf).2.1;cases z:CQ fs nx cp sg
 .rw[mW z];go_enter func158,ntmps158;go_wp2_with (go_at_call 213;refine(MM a c fs nx cp sg _ (hv.e Cq) hl A y).rtn λb k=>?_;obtain⟨O,T⟩:=AU k);refine bodyPost_ret (v:=C6.ai.val none 0) (by simp[results,results158,go_sem,O,C6.val,C6.ai]) rfl ⟨⟨none,0,[],rfl,Cg.nil _ _⟩,?_⟩;have hB:Bw w b:=Cq.thn k;exact uX
 have U:=Tq z;cases u:Bb tag fs with
 |none=>
  rw[Vn z u];go_enter func158,ntmps158;go_wp2_with (go_at_call 213;refine(MM a c fs nx cp sg _ (hv.e Cq) hl A y).rtn λb k=>?_;obtain⟨O,T⟩:=AU k);have p:Bw w b:=Cq.thn k;have N:w.heap.size+1+1+1<=b.heap.size:=by have:=k.size;simpa using this
  have q0:b.cell? ⟨w.heap.size,0,none⟩=some (.slice a fs.length c):=by rw[O _ _ qe];simp[go_sem]
  have q1:b.cell? ⟨w.heap.size,1,none⟩=some (.int .i64 nx):=by rw[O _ _ qe];simp[go_sem]
  have q2:b.cell? ⟨w.heap.size,2,none⟩=some (.int .i64 cp):=by rw[O _ _ qe];simp[go_sem]
  have q3:b.cell? ⟨w.heap.size,3,none⟩=some (.bool sg):=by rw[O _ _ qe];simp[go_sem]
  have q4:b.cell? ⟨w.heap.size+1,1,none⟩=some (.int .i64 tag):=by rw[O _ _ qf];simp[go_sem]
  have C:∃r:Bl,Bk b (w.heap.size+1+1) r 87/\r.size=6:=⟨_,(k.block _ qf).c (FP _ _ _ qf),rfl⟩
  have J:=hv.e p
  go_region_held3 (λw'=>w'.cell? ⟨w.heap.size,0,none⟩=some (.slice a fs.length c)/\w'.cell? ⟨w.heap.size,1,none⟩=some (.int .i64 nx)/\w'.cell? ⟨w.heap.size,2,none⟩=some (.int .i64 cp)/\w'.cell? ⟨w.heap.size,3,none⟩=some (.bool sg)/\w'.cell? ⟨w.heap.size+1,1,none⟩=some (.int .i64 tag))
   ((go_split_ands;refine⟨?_,?_,?_,?_,?_⟩<;>first|assumption|exact zab m qk))
   (first|(go_at_call 96;refine(VF a c fs nx cp sg _ (J.e ?_) hl U y).j ?_;exact Au.drew;rintro e l ⟨R,D,rfl,I,G,m⟩;have aD:(Instr.lookup 172 (.map (some R)) (.int .i64 tag) true).run prog l=.ok (.tuple #[.int .i64 0,.bool false]) l:=(by have:=Vk I G Z;rw[u]at this;exact this)))
  have d:Bw w l:=p.drew.c (m.j p.size);have L:=hv.e d;have aG:w.heap.size+1+1+1<=l.heap.size:=yi N m.size;obtain⟨W,M,H⟩:=C;go_wp2_with (first|(go_at_call 216;refine(PG a c fs nx cp sg 5 0 l L hl x).j ?_;rintro e w3 ⟨⟨t,q,K,rfl,B⟩,s⟩)|(refine Ec qh 87 (.tmp 4) (.tmp 22) qh (w.heap.size+1+1) (C6.cells ⟨fs,nx,cp,sg,5,0⟩ t q) qh qh W 87 ((s.block _ qd).c ((m.block _ (by show _<b.heap.size;omega)).c M)) H IW (C6.one _ _ _) ?_;intro w4 aF Y))
  go_frame
  refine bodyPost_ret (v:=C6.val ⟨fs,nx,cp,sg,5,0⟩ t q) (by simp[results,results158,asAddr,C6.load aF.o]) rfl ⟨⟨t,q,K,rfl,?_⟩,?_⟩
  .exact(B.kept (λg hg=>Y.block g (by have:=(B.range hg).1;omega))).lower d.size
  .exact(d.thn s).c (Y.e qd)
 |some i=>
  rw[Vp z u];have aE:=SS u;go_enter func158,ntmps158;go_wp2_with (go_at_call 213;refine(MM a c fs nx cp sg _ (hv.e Cq) hl A y).rtn λb k=>?_;obtain⟨O,T⟩:=AU k);have p:Bw w b:=Cq.thn k;have N:w.heap.size+1+1+1<=b.heap.size:=by have:=k.size;simpa using this
  have q0:b.cell? ⟨w.heap.size,0,none⟩=some (.slice a fs.length c):=by rw[O _ _ qe];simp[go_sem]
  have q1:b.cell? ⟨w.heap.size,1,none⟩=some (.int .i64 nx):=by rw[O _ _ qe];simp[go_sem]
  have q2:b.cell? ⟨w.heap.size,2,none⟩=some (.int .i64 cp):=by rw[O _ _ qe];simp[go_sem]
  have q3:b.cell? ⟨w.heap.size,3,none⟩=some (.bool sg):=by rw[O _ _ qe];simp[go_sem]
  have q4:b.cell? ⟨w.heap.size+1,1,none⟩=some (.int .i64 tag):=by rw[O _ _ qf];simp[go_sem]
  have C:∃r:Bl,Bk b (w.heap.size+1+1) r 87/\r.size=6:=⟨_,(k.block _ qf).c (FP _ _ _ qf),rfl⟩
  have J:=hv.e p
  go_region_held3 (λw'=>w'.cell? ⟨w.heap.size,0,none⟩=some (.slice a fs.length c)/\w'.cell? ⟨w.heap.size,1,none⟩=some (.int .i64 nx)/\w'.cell? ⟨w.heap.size,2,none⟩=some (.int .i64 cp)/\w'.cell? ⟨w.heap.size,3,none⟩=some (.bool sg)/\w'.cell? ⟨w.heap.size+1,1,none⟩=some (.int .i64 tag))
   ((go_split_ands;refine⟨?_,?_,?_,?_,?_⟩<;>first|assumption|exact zab m qk))
   (first|(go_at_call 96;refine(VF a c fs nx cp sg _ (J.e ?_) hl U y).j ?_;exact Au.drew;rintro e l ⟨R,D,rfl,I,G,m⟩;have aD:(Instr.lookup 172 (.map (some R)) (.int .i64 tag) true).run prog l=.ok (.tuple #[.int .i64 i,.bool true]) l:=(by have:=Vk I G Z;rw[u]at this;exact this)))
  have d:Bw w l:=p.drew.c (m.j p.size);have L:=hv.e d;have aG:w.heap.size+1+1+1<=l.heap.size:=yi N m.size;obtain⟨W,M,H⟩:=C;go_split_ands;go_wp2_with fail
  go_region_held3 (λw'=>w'.cell? ⟨w.heap.size,0,none⟩=some (.slice a fs.length c)/\w'.cell? ⟨w.heap.size,1,none⟩=some (.int .i64 nx)/\w'.cell? ⟨w.heap.size,2,none⟩=some (.int .i64 cp)/\w'.cell? ⟨w.heap.size,3,none⟩=some (.bool sg)/\w'.cell? ⟨w.heap.size+1,1,none⟩=some (.int .i64 tag))
   ((go_split_ands;refine⟨?_,?_,?_,?_,?_⟩<;>first|((with_reducible refine zaM (zaM (zaM (zaM (zaM (zaM ?_ ?_ _) ?_ _) ?_ _) ?_ _) ?_ _) ?_ _)<;>first|with_reducible assumption|(dsimp only;omega))|with_reducible exact zab s qk|with_reducible exact zcF qk))
   ((go_at_call 219;refine(pG a c fs nx cp sg i _ (L.e ?_) hc hl x aE).j ?_;exact Au.drew;rintro e w3 ⟨⟨t,q,K,rfl,B⟩,s⟩;obtain⟨x0,x1,x2,x3,x4,x5,y0,y1,y2,y3,y4,y5,z0,z1,z2,z3,z4,z5⟩:=Qc ((s.block (w.heap.size+1+1) (by show _<l.heap.size;omega)).c ((m.block _ (by show _<b.heap.size;omega)).c M)) H))
  go_wp2;refine bodyPost_ret (v:=C6.val ⟨fs.eraseIdx i,nx,cp,sg,0,tag⟩ t q) (by simp[results,results158,go_sem,C6.val, *]) rfl ⟨⟨t,q,K,rfl,?_⟩,?_⟩
  .exact((((((B.set qe _).set qe _).set qe _).set qe _).set qe _).set qe _).lower d.size
  exact((((((d.drew.c (s.j d.size)).setCell qe _).setCell qe _).setCell qe _).setCell qe _).setCell qe _).setCell qe _
def XF:Aj:=[.nilFunc,.func (.func 157) #[] #[],.func (.func 158) #[] #[],.func (.func 159) #[] #[]]
def vG:(prog.info? 265).map (·.size)=some 4:=qg
def zG:∀v∈XF,v.oneCell'=true:=by
 intro v hv;simp only[XF,yW,Yw,or_false]at hv;exact im
def gv(k:Nat)(v)(g:k<4)(hv:XF[k]?=some v)(w):Ca 95 #[I6 k] w λe w'=>e=.returned v/\Bw w w':=by
 have d:(0:Int)<=(k:Int):=qd;have i:(k:Int)<4:=qd;go_enter func95,ntmps95;go_wp2_with (first|(refine Ec qh 265 (.tmp 3) (.tmp 4) qh w.heap.size XF qh qh _ 265 (FP _ _ _ rfl) qh vG zG ?_;intro f a b;have O:=Nh a k v hv;rw[Yj]at O)|fail);go_ret;exact⟨rfl,Ar.c (b.e Bg)⟩
end
def Cg.fd{w m:Aa}{base n:Nat}{v x:Value}{A B:Ab}{f k:F}{X Y:Aj}(h:Cg w base v n (A++f::B) (X++x::Y))(s:X.length=A.length)(l:k.v.length=f.v.length)
  (hv:m.ownsRow base 145 3 v n (BI (A++k::B) (X++x::Y))) (E:m.ownsRow base 187 3 x k.v.length (k.v.flatMap V.cells)) (G:Mk (λg=>v.ownBlock=some g∨x.ownBlock=some g) w m):Cg m base v n (A++k::B) (X++x::Y):=by
 have z:=YA.1 h.bj;have O:∀y:Value,y∈X∨y∈Y->∀g,y.ownBlock=some g->m.heap[g]?=w.heap[g]?:=by
  intro y b g o;have C:y∈X++x::Y:=by rcases b with b|b<;>simp[b]
  refine G.block g (h.range (.inr ⟨y,C,o⟩)).2 ?_;rintro(e|e)
  .exact h.apart y C g e o
  rcases b with b|b
  .exact z.2.2 y b x qf g o e
  exact(Kf.1 z.2.1).1 y b g e o
 refine⟨by rw[h.num];simp,by rw[h.len];simp,hv,?_,h.apart,h.bj⟩;intro i q y d b;rcases Nat.lt_trichotomy i A.length with j|j|j
 .rw[yr j]at d;rw[yr qd]at b;obtain⟨p,r⟩:=h.V i q y (by rw[yr j];exact d) (by rw[yr qd];exact b);exact⟨p,Ci r (O y (.inl (yd b)))⟩
 .subst j;rw[yB (yA _)]at d;rw[yB qd,s]at b;simp at d b;subst d;subst b;obtain⟨⟨a,c,e⟩,_⟩:=h.V A.length f x qf (by rw[yB qd,s];simp);exact⟨⟨a,c,by rw[e,l]⟩,E⟩
 have t:∀u:F,(A++u::B)[i]?=B[i-A.length-1]?:=λu=>by
  rw[yB qd,List.getElem?_cons,if_neg qd]
 have D:(X++x::Y)[i]?=Y[i-A.length-1]?:=by
  rw[yB qd,List.getElem?_cons,if_neg qd,s]
 rw[t]at d;rw[D]at b;obtain⟨p,r⟩:=h.V i q y (by rw[t];exact d) (by rw[D];exact b);exact⟨p,Ci r (O y (.inr (yd b)))⟩
section
open Go.Maps
def Ek(but:Int)(cls:ByteArray)(vs:AH)(f:F):Bool:=decide (f.tag≠but)&&(decide (f.E=cls)&&decide (f.v=vs))
def Jj(but:Int)(cls:ByteArray)(vs:AH):Ab->Int
 |[]=>0
 |f::r=>if Ek but cls vs f then f.tag else Jj but cls vs r
def F_(sg:Bool)(but:Int)(cls:ByteArray)(vs:AH)(fs:Ab):Int:=if sg then Jj but cls vs fs else 0
def gk{but a vs}:∀{fs:Ab}{last:Int},0<=last->CL last fs=true->Jj but a vs fs=0∨0<Jj but a vs fs
 |[],_,_,_=>.inl rfl
 |f::r,last,hl,h=>by
  simp only[CL,Jl,ym,decide_eq_true_eq]at h
  unfold Jj
  split
  .exact .inr (by omega)
  exact gk (last:=f.tag) (by omega) h.2
def uM(h:P:=by have HT:=Ad (show F_ true but cls vs (fs.drop k)=F_ true but cls vs (fs.drop (k+1)) by rw[HD.o];show(if Ek but cls vs f then f.tag else _)=_;rw[O];rfl);go_wp2;exact⟨⟨k+1,by omega,by go_num,by rw[HG.o,HT.o],hb.alloc af _⟩,by simp;omega⟩):=h
def pD(a c fs nx cp sg but cls sa q vs w)(hv:Cs w a fs)(C:Cj w sa vs)(hl:fs.length<=1048576)(y:∀f∈fs,f.v.length<=1048576) :
  Ca 119 #[.agg #[.slice a fs.length c,.int .i64 nx,.int .i64 cp,.bool sg],.int .i64 but,.string cls,.slice sa vs.length q] w λe w'=>
   e=.returned (.int .i64 (F_ sg but cls vs fs))/\Bw w w':=by
 go_enter func119,ntmps119;go_wp2
 go_loopw [14] (λi wr=>∃(k:Nat),k<=fs.length/\i=.int .i64 k/\F_ sg but cls vs fs=F_ sg but cls vs (fs.drop k)/\Below (w.heap.size+1) (w.alloc (.cells #[.slice a fs.length c,.int .i64 nx,.int .i64 cp,.bool sg] 27)) wr) (mz fs.length)
 .exact TL
 obtain⟨k,L,rfl,B,hb⟩:=hrel;have HG:=Ad B;have g:=hb;rw[<-WN w (.cells #[.slice a fs.length c,.int .i64 nx,.int .i64 cp,.bool sg] 27)]at g;have n:Bw w wr:=Ar.thn g;by_cases z:k<fs.length
 .obtain⟨f,r⟩:=Bq z;obtain⟨b,o,rfl,D,M,s,cs,K,l⟩:=hv.e n k f r;have HD:=Ad (Dx r);have x:=y f (yd r);have G:At wr w.heap.size 3 (.bool sg):=zab g ql;have af:w.heap.size+1<=wr.heap.size:=by have:=g.size;simpa using this
  have u:=C.e n;have I:w.heap.size<wr.heap.size:=qd;cases sg
  .go_wp2;exact⟨⟨k+1,qd,qm,by rw[HG.o];rfl,hb.alloc af _⟩,qe⟩
  cases m:(f.tag != but)
  .have O:Ek but cls vs f=false:=by unfold Ek;simp at m;simp[m]
   exact uM
  cases d:(f.E.toList==cls.toList)
  .have O:Ek but cls vs f=false:=by rw[Gu]at d;unfold Ek;rw[d];simp
   exact uM
  have O:Ek but cls vs f=decide (f.v=vs):=by rw[Gu]at d;unfold Ek;rw[d];simp at m;simp[m]
  have HT:=Ad (show F_ true but cls vs (fs.drop k)=if decide (f.v=vs) then f.tag else F_ true but cls vs (fs.drop (k+1)) by rw[HD.o];show(if Ek but cls vs f then f.tag else _)=_;rw[O];rfl);cases t:decide (f.v=vs)
  .go_wp2_with (go_at_call 175;refine(VV s sa cs q f.v vs _ (l.e Ar) (u.e Ar) x).rtn λA p=>?_);exact⟨⟨k+1,qd,qm,by rw[HG.o,HT.o,t];rfl,(hb.alloc af _).c (p.j qe)⟩,qe⟩
  go_wp2_with (go_at_call 175;refine(VV s sa cs q f.v vs _ (l.e Ar) (u.e Ar) x).rtn λA p=>?_;obtain⟨H,J⟩:=AU p);go_ret;exact⟨GT (by rw[HG.o,HT.o,t];rfl),(n.alloc qd _).c (p.j qe)⟩
 go_wp2;go_ret;exact⟨GT (by rw[HG.o,yH qd];cases sg<;>rfl),n⟩
end
def MP(a:Af)(n c:Nat)(nx cp:Int)(sg:Bool):Aj:=[.slice a n c,.int .i64 nx,.int .i64 cp,.bool sg]
def l_(a n c nx cp sg):∀v∈MP a n c nx cp sg,v.oneCell'=true:=by
 intro v hv;simp only[MP,yW,Yw,or_false]at hv;exact im
def X7:(prog.info? 27).map (·.size)=some 4:=qg
def Es{w w'}{b:Nat}{o}(h:w.heap[b]?=some o)(a:Bw w w'):w'.heap[b]?=some o:=(a.block b (Ap h)).c h
def zoU{w w' b O o}(h:w.heap[b]?=some o)(d:Turned w w' O)(a:b≠O):w'.heap[b]?=some o:=(d.block b a).c h
def U2{w w':Aa}{o o'}{b:Nat}(h:w.heap[b]?=some o)(a:Turned (w.alloc o') w' w.heap.size):w'.heap[b]?=some o:=by
 have hl:=Ap h;exact zoU ((yN _ _ _ hl).c h) a qd
def EQ{w w' o'}(a:Turned (w.alloc o') w' w.heap.size):Bw w w':=
 Ar.c (a.e Bg)
def ZI{w w':Aa}{o'}(a:Turned (w.alloc o') w' w.heap.size):w'.heap.size=w.heap.size+1:=by rw[a.size];simp
def LB{w:Aa}{b a n c nx cp sg t e}(h:w.heap[b]?=some (.cells (MP a n c nx cp sg).toArray t e)):At w b 0 (.slice a n c)/\At w b 1 (I6 nx)/\At w b 2 (I6 cp)/\At w b 3 (.bool sg):=by
 have d:=Nh h;exact⟨d 0 _ rfl,d 1 _ rfl,d 2 _ rfl,d 3 _ rfl⟩
def wt(l:Ab):Nat:=2*l.length+3*(l.map λf=>f.v.length).sum
section
open Go.Maps
def zX{f g}(b:Ib f)(c:Ib g)(w):(binOp .eql 382 (.agg (Fl f).toArray) (.agg (Fl g).toArray)).run prog w=.ok (.bool (decide (f.E=g.E)&&decide (f.v=g.v))) w:=by
 obtain⟨j,K⟩:=KL.bP;obtain⟨r,i,O⟩:=run_equal_deep (P:=prog) w (m:=5) qd (k:=382) qg kC (K f b) (K g c);rw[run_eql_struct];have e:(Op.equalIn 10000 382 (.agg (Fl f).toArray) (.agg (Fl g).toArray)).run prog w=.ok r w:=i;rw[e];show Result.ok (Value.bool r) w=_;rw[ZM K b c,SZ]at O;have:r=(decide (f.E=g.E)&&decide (f.v=g.v)):=by
  cases r
  .have a:¬(f.E=g.E/\f.v=g.v):=λh=>by cases O.2 h
   symm
   simpa[WS] using a
  obtain⟨d,a⟩:=O.1 rfl;simp[d,a]
 rw[this]
def zY{f}(hl:f.v.length<=6):(Fl f).length=20:=by unfold Fl;rw[Th,SV _ hl]
def Ge(w:Aa)(b:Nat):Aj:=match w.heap[b]? with|some (.cells c _ _)=>c.toList|_=>[]
def Oj:Value->Nat
 |.pointer (some p)=>p.block
 |_=>0
def wm{w b L t a}(h:w.heap[b]?=some (.cells L.toArray t a)):Ge w b=L:=by simp[Ge,h]
def zpf{w w' b L}(h:Ge w b=L)(a:Bw w w')(hlt:b<w.heap.size):Ge w' b=L:=by
 unfold Ge at h⊢;rw[a.block b hlt];exact h
def zsl(ρ:Operand->Value)(e:Option Tmp)(x:Operand)(ty:TypeId)(pos:String)(O:Array Edge)(a:Option (Nat × Bool))(w:Aa)(b:ρ x=.pointer (some ⟨Oj (ρ x),0,none⟩))(hl:(Ge w (Oj (ρ x))).length=20) :
  (execOp ρ ⟨e,.load 382 x,ty,pos,O,a⟩).run prog w=.ok (.value (.agg (Ge w (Oj (ρ x))).toArray)) w:=by
 have f:w.rangeAt (Oj (ρ x)) 0 (Ge w (Oj (ρ x))):=by
  intro j v hv;unfold Ge at hv;split at hv
  .rename_i c t g d;simp[World.cell?,d];simpa using hv
  simp at hv
 have:=run_loadAt_mid (P:=prog) w (Oj (ρ x)) 0 382 (Ge w (Oj (ρ x))) _ f underlying382 rfl (by rw[hl];exact X9);rw[<-b]at this;simp only[execOp,V9,this,Kk,Sem.run_pure]
attribute [local go_sem ↓] zsl
attribute [local go_sem] Oj
def jr(h:P:=by
 go_wp2
 go_region_held3 (λw'=>At w' wr.heap.size 0 (I6 f.tag)/\At w' wr.heap.size 1 (.string f.E)/\At w' wr.heap.size 2 (.slice s f.v.length cs)/\Ge w' w1.heap.size=Fl g)
  ((go_split_ands;refine⟨?_,?_,?_,?_⟩<;>first|with_reducible exact zab O (by assumption)|(with_reducible refine zpf (by assumption) O ?_;simp;omega)|exact hH2 _|(simp[go_sem];done)))
  ((go_at_call 257;refine(ZC f s cs _ (hsl.e ?_) hkf.2.1).j ?_;exact Ar.drew;rintro e w3 ⟨rfl,O⟩))
 have af:Bw w2 w3:=(hb.alloc hb.size _).drew.c (O.j (by have:=hb.size;simp;omega));go_wp2
 first
  | (have _:=tP4
     go_roundw
     case rel=>exact⟨k+1,by omega,by go_num,by rw[HG.o,HT.o];rfl,af⟩
     case measure=>(simp;omega))
  | (go_ret
     exact⟨GT (by show f.tag=Jj but g.E g.v fs;rw[HG.o,HT.o];rfl),hB2.thn af⟩)
 ):=h
def nG(a c fs nx cp sg g sa n but w)(hv:Cs w a fs)(G:Cj w sa g.v)(hl:fs.length<=1048576)(C:∀f∈fs,Ib f)(d:Ib g) :
  Ca 215 #[.agg #[.slice a fs.length c,I6 nx,I6 cp,.bool sg],.agg #[I6 g.tag,.string g.E,.slice sa g.v.length n],I6 but] w λe w'=>
   e=.returned (I6 (F_ sg but g.E g.v fs))/\Bw w w':=by
 cases sg
 .go_enter func215,ntmps215;go_wp2;go_ret;exact⟨rfl,Br⟩
 have HL:=Ad (zY d.2.1);go_enter func215,ntmps215;go_wp2_with (first|(go_at_call 257;refine(ZC g sa n _ (G.e Br) d.2.1).rtn λw1 af=>?_;obtain⟨K,N⟩:=AU af)|(refine Ec qh 382 (.tmp 7) (.tmp 14) qh w1.heap.size (Fl g) qh qh _ 382 (FP _ _ _ rfl) (by rw[HL.o];rfl) Xu (gA _ _ _) ?_;intro w2 y m;have L:At w2 w.heap.size 0 (.slice a fs.length c):=zab (EQ m) (zab af ql))|fail);have q:Bw w w1:=Br.thn af;have hB2:Bw w w2:=q.c ((EQ m).j q.size);have t:=hv.e hB2;have M:=ZI m;have H:=Ad y
 go_loopw [18] (λi wr=>∃(k:Nat),k<=fs.length/\i=I6 k/\Jj but g.E g.v fs=Jj but g.E g.v (fs.drop k)/\Bw w2 wr) (mz fs.length)
 .exact TL
 obtain⟨k,J,rfl,D,hb⟩:=hrel;have HG:=Ad D;by_cases z:k<fs.length
 .obtain⟨f,l⟩:=Bq z;obtain⟨b,o,rfl,I,U,s,cs,R,hsl⟩:=t.e hb k f l;have p:=Ad (Dx l);have hkf:=C f (yd l);have B:w1.heap.size<wr.heap.size:=by have:=hb.size;omega
  have hH2:∀o,Ge (wr.alloc o).drew w1.heap.size=Fl g:=λo=>wm (w:=wr.alloc o) ((yN _ _ _ B).c (Es H hb));have W:(Fl g).length=20:=HL;have A:=λw'=>zX hkf d w';by_cases ht:f.tag=but
  .have O:Ek but g.E g.v f=false:=by unfold Ek;simp[ht]
   have HT:=Ad (show Jj but g.E g.v (fs.drop k)=Jj but g.E g.v (fs.drop (k+1)) by rw[p.o];show(if Ek but g.E g.v f then f.tag else _)=_;rw[O];rfl);subst ht;go_wp2
   go_quiet (fail)
   have u:Bw w2 ((wr.alloc (.cells #[I6 f.tag,.string f.E,.slice s f.v.length cs] 145)).drewN nq):=GH (hb.alloc hb.size _);go_wp2;exact⟨⟨k+1,qd,qm,by rw[HG.o,HT.o],u⟩,qe⟩
  have O:Ek but g.E g.v f=(decide (f.E=g.E)&&decide (f.v=g.v)):=by unfold Ek;simp[ht]
  have x:(f.tag != but)=true:=OK;have HT:=Ad (show Jj but g.E g.v (fs.drop k)=if(decide (f.E=g.E)&&decide (f.v=g.v)) then f.tag else Jj but g.E g.v (fs.drop (k+1)) by rw[p.o];show(if Ek but g.E g.v f then f.tag else _)=_;rw[O]);generalize T:(decide (f.E=g.E)&&decide (f.v=g.v))=r at A HT;cases r
  .have tP4:=trivial;exact jr
  exact jr
 go_wp2;go_ret;exact⟨GT (by show 0=Jj but g.E g.v fs;rw[HG.o,yH qd];rfl),hB2.thn hb⟩
end
structure IM(Z:Nat->Prop) (w:Aa) (base:Nat) (v:Value) (n:Nat) (fs:Ab) (xs:Aj):Prop where
 num:n=fs.length
 len:xs.length=fs.length
 aa:w.ownsRow base 145 3 v n (BI fs xs)
 V:∀(i:Nat)(f:F)(x:Value),fs[i]?=some f->xs[i]?=some x->∃a c,x=.slice a f.v.length c/\GU Z w a f.v
 apart:∀b,Z b->v.ownBlock≠some b
def Cg.dW{w base v n fs xs}(h:Cg w base v n fs xs):IM (λb=>base<=b/\b<w.heap.size/\v.ownBlock≠some b) w base v n fs xs:=by
 refine⟨h.num,h.len,h.aa,λi f x p d=>?_,λb l=>l.2.2⟩;obtain⟨⟨a,c,e⟩,k⟩:=h.V i f x p d;have O:=h.apart x (yd d);subst e;refine⟨a,c,rfl,λj u hu=>?_⟩;obtain⟨b,o,rfl,g,m⟩:=Cj.owns k j u hu;exact⟨b,o,⟨(k.lt b rfl).1,yI w ⟨b,_,none⟩ g,λe=>O b e rfl⟩,rfl,g,m⟩
def NW.dW{Z w0 w v n fs xs}(h:NW Z w0 w v n fs xs)(m:Bw w0 w):IM (λb=>Z b/\b<w0.heap.size) w w0.heap.size v n fs xs:=by
 refine⟨h.num,h.len,h.aa,λi f x r l=>?_,λb k e=>by have:=(h.aa.lt b e).1;omega⟩;obtain⟨a,c,rfl,k⟩:=h.V i f x r l;refine⟨a,c,rfl,λj u hu=>?_⟩;obtain⟨b,o,O,rfl,g,p,q⟩:=k j u hu;have hlt:b<w0.heap.size:=yI w0 ⟨b,_,none⟩ g;have d:=m.block b hlt;exact⟨b,o,⟨O,hlt⟩,rfl,Nn d g,Nn d p,Nn d q⟩
theorem IM.e{Z w w' base v n fs xs}(h:IM Z w base v n fs xs)(d:Bw w w'):IM Z w' base v n fs xs:=
 ⟨h.num,h.len,Ci h.aa (λg l=>d.block g (h.aa.lt g l).2),λi f x k j=>by
  obtain⟨a,c,e,hv⟩:=h.V i f x k j
  exact⟨a,c,e,hv.kept (λb _ hlt=>d.block b hlt)⟩,h.apart⟩
def IM.j{Z Z' w base v n fs xs}(h:IM Z w base v n fs xs)(g:∀b,Z b->Z' b)(O:∀b,Z' b->v.ownBlock≠some b):IM Z' w base v n fs xs:=
 ⟨h.num,h.len,h.aa,λi f x k d=>by
  obtain⟨a,c,e,hv⟩:=h.V i f x k d
  exact⟨a,c,e,hv.j g⟩,O⟩
def IM.on{Z w base a n c fs xs}(h:IM Z w base (.slice a n c) n fs xs):DN (λb=>Z b∨(Value.slice a n c).ownBlock=some b) w a fs:=by
 intro i f d;have p:i<fs.length:=(yf.1 d).1;have k:xs[i]?=some (xs[i]'(by rw[h.len];exact p)):=yK _;obtain⟨o,q,e,r⟩:=h.V i f _ d k;have key:=λj(hj:j<3)=>Ry fs xs h.len i f _ d k j hj;obtain⟨g,rfl,_,h0,_⟩:=CG h.aa ((key 0 qd).c rfl);obtain⟨s,l,_,h1,_⟩:=CG h.aa ((key 1 qd).c rfl);obtain⟨t,O,_,h2,_⟩:=CG h.aa ((key 2 qd).c rfl);cases l;cases O;rw[e]at h2;exact⟨g,0,.inr rfl,rfl,qK,qx,o,q,qw,r.j (λb m=>.inl m)⟩
def IM.snoc{Z w w' base v j n fs xs f x}(h:IM Z w base v n fs xs)(p:∀b,Z b->b<w.heap.size)(m:∃a c,x=.slice a f.v.length c/\GU Z w a f.v)(ho:w'.ownsRow base 145 3 j (n+1) (BI fs xs++Bx f x))(q:w.grownBy w' v.ownBlock)(hl:j.ownBlock=v.ownBlock∨j.ownBlock=some w.heap.size):IM Z w' base j (n+1) (fs++[f]) (xs++[x]):=by
 have O:∀(a:Af)(vs:AH),GU Z w a vs->GU Z w' a vs:=λa vs hv=>hv.kept (λb k hlt=>q.block b hlt (λe=>h.apart b k e.z));refine⟨by simp[h.num],by simp[h.len],jR,?_,?_⟩
 .intro i l y d g;by_cases hi:i<fs.length
  .rw[yr hi]at d;rw[yr Xt]at g;obtain⟨a,c,e,hv⟩:=h.V i l y d g;exact⟨a,c,e,O a _ hv⟩
  have o:i<(fs++[f]).length:=(yf.1 d).1;simp at o;obtain rfl:i=fs.length:=qd;rw[yB Bg]at d;rw[yB jS,h.len]at g;simp at d g;subst d;subst g;obtain⟨a,c,e,hv⟩:=m;exact⟨a,c,e,O a _ hv⟩
 intro b k;rcases hl with hl|hl
 .rw[hl];exact h.apart b k
 rw[hl];intro e;cases e;have:=p _ k;omega
def kR{W a:Aa}(c:Below W.drew.heap.size W.drew a):(∀b o,b<W.heap.size->a.cell? ⟨b,o,none⟩=W.cell? ⟨b,o,none⟩)/\(∀b o,b<W.heap.size->a.frozen? ⟨b,o,none⟩=W.frozen? ⟨b,o,none⟩):=
 ⟨λb o h=>c.cell (p:=⟨b,o,none⟩) h,λb o h=>c.frozen (p:=⟨b,o,none⟩) h⟩
def TG{w d f:Aa}{o}{v:Value}(i:(d.alloc o).grownBy f v.ownBlock)(hv:∀g,v.ownBlock=some g->g<w.heap.size)(b)(k:w.heap.size<=b)(hlt:b<d.heap.size) :
  (∀j,f.cell? ⟨b,j,none⟩=d.cell? ⟨b,j,none⟩)/\(∀j,f.frozen? ⟨b,j,none⟩=d.frozen? ⟨b,j,none⟩):=by
 have e:f.heap[b]?=d.heap[b]?:=(i.block b qe (λe=>by have:=hv b e.z;omega)).c (yN _ _ _ hlt);exact⟨λj=>yP (a:=⟨b,j,none⟩) e,λj=>by simp[World.frozen?,e]⟩
def oj(a c fs xs nx cp sg i sa H vs Z base w)(I:IM Z w base (.slice a fs.length c) fs.length fs xs)(M:∀b,Z b->b<w.heap.size)(Y:Cj w sa vs)(hl:fs.length<=1048576)(aD:vs.length<=1048576)(hbase:base<=w.heap.size)(h1:0<=nx)(L:nx<=1000000) :
  Ca 120 #[.agg #[.slice a fs.length c,I6 nx,I6 cp,.bool sg],.string i,.slice sa vs.length H] w λe w'=>
   (∃N R,e=.returned (C6.val ⟨fs++[⟨nx,i,vs⟩],nx+1,cp,sg,0,nx⟩ N R)/\DN (λb=>Z b∨base<=b) w' N (fs++[⟨nx,i,vs⟩])/\fs.length+1<=R)/\Below base w w':=by
 have aK:IntKind.i64.wrap (nx+1)=nx+1:=by rw[Yh];omega
 have aM:IntKind.i64.wrap (nx+1-1)=nx:=by rw[Yh];omega
 obtain⟨T,r⟩:=An I (λg(U:(Value.slice a fs.length c).ownBlock=some g)=>(I.aa.lt g U).2);go_enter func120,ntmps120;go_wp2_with fail
 go_region_law (first|(go_simp;go_at_call 178;refine(rP sa H vs _ (Y.e ?_) aD).j ?_;exact Br.drew;rintro e l ⟨⟨n,q,rfl,D⟩,O⟩;obtain⟨y,x⟩:=kR O;have HX:=Ad D;clear D;have s:=Ad ((T.e Br.drew).e O);have aF:w.heap.size+1<l.heap.size:=yg qf O.size;have aB:w.heap.size<l.heap.size:=qd)|(refine GG qh (.tmp 8) (.tmp 15) 25 qh base 145 _ 3 48 underlying25 QX qh qd _ fs.length _ qh (s.aa.alloc _) (some ⟨l.heap.size,0,none⟩) 1 1 qh (Bx ⟨nx,i,vs⟩ (.slice n vs.length q)) qh (λe=>qo) (by exact RS _ _ _) (RT _ _ _ _) qj qd (by have L:=O.size;simp at L⊢;omega) ?_;intro K G w2 t p J;obtain⟨E,B⟩:=TG p r w.heap.size Bg aB;obtain⟨C,A⟩:=TG p r (w.heap.size+1) qd aF;have aL:=λj=>(E j).c (y w.heap.size j qe);have aJ:=λj=>(B j).c (x w.heap.size j qe);have W:=λj=>(C j).c (y (w.heap.size+1) j qf);have aN:=λj=>(A j).c (x (w.heap.size+1) j qf);clear E B C A y x)|fail)
 all_goals
  have aH:∀b,(Z b∨(w.heap.size+1+1<=b/\b<l.heap.size))->b<l.heap.size:=λb d=>by
   rcases d with d|d
   .have:=M b d;omega
   exact d.2
  have hm:=(s.e (Au.alloc Bg (.cells (Bx ⟨nx,i,vs⟩ (.slice n vs.length q)).toArray 145))).j (Z':=λb=>Z b∨(w.heap.size+1+1<=b/\b<l.heap.size)) (λb d=>.inl d) (λb d=>by
   rcases d with d|d
   .exact s.apart b d
   intro e;have:=r b e;omega)
  have ax:GU (λb=>Z b∨(w.heap.size+1+1<=b/\b<l.heap.size)) (l.alloc (.cells (Bx ⟨nx,i,vs⟩ (.slice n vs.length q)).toArray 145)) n vs:=
   ((GU.owns HX.2).j (λb d=>.inr (by have:=d.1;simp at this;exact⟨this,d.2⟩))).kept (λb _ hlt=>yN _ _ _ hlt)
  have hS:=hm.snoc (f:=⟨nx,i,vs⟩) (λb d=>by have:=aH b d;simp;omega) ⟨n,q,rfl,ax⟩ t p J;obtain⟨HS,aA⟩:=An hS.on t.lt;go_wp2;refine bodyPost_ret (v:=C6.val ⟨fs++[⟨nx,i,vs⟩],nx+1,cp,sg,0,nx⟩ K G) (by simp[results,results120,go_sem,W,C6.val]) rfl ⟨⟨K,G,rfl,?_,PA t⟩,?_⟩
  .refine(HS.kept (w':=_) ?_).j ?_;rotate_left
   .intro b k;rcases k with(k|k)|k
    .exact .inl k
    .exact .inr qd
    exact .inr (aA b k).1
   intro b k _;have m:b≠w.heap.size/\b≠w.heap.size+1:=by
    rcases k with(k|k)|k
    .have:=M b k;omega
    .omega
    rcases J.o with e|e
    .have:=r b (e.z.c k);omega
    have:=e.z.c k;simp at this;omega
   have k1:∀(v:Aa)o u,(v.setCell ⟨w.heap.size,o,none⟩ u).heap[b]?=v.heap[b]?:=λv o u=>yD _ _ _ _ m.1;have k2:∀(v:Aa)o u,(v.setCell ⟨w.heap.size+1,o,none⟩ u).heap[b]?=v.heap[b]?:=λv o u=>yD _ _ _ _ m.2;simp only[k1,k2]
  have aE:Below base w l:=(Br.drew.c (O.j qe)).j hbase;have aG:Below base w w2:=(aE.alloc qd _).grown p qe (λj hj=>(s.aa.lt j hj).1);exact(((((((aG.setCell qe _).setCell qe _).setCell qe _).setCell qe _).setCell qe _).setCell qe _).setCell qe _).setCell qe _
def CX(fs:Ab)(nx cp:Int)(sg:Bool)(cls:ByteArray)(vs:AH):C6:=
 if 0<F_ sg 0 cls vs fs then⟨fs,nx,cp,sg,2,F_ sg 0 cls vs fs⟩ else if(fs.length:Int)=cp then⟨fs,nx,cp,sg,3,0⟩ else if 1000000<nx then⟨fs,nx,cp,sg,4,0⟩ else⟨fs++[⟨nx,cls,vs⟩],nx+1,cp,sg,0,nx⟩
def DF(fs:Ab)(nx cp:Int)(sg:Bool)(cls:ByteArray)(vs:AH):C6:=
 if CQ fs nx cp sg&&(AP cls.data.toList&&DO vs) then CX fs nx cp sg cls vs else C6.ai
def Vg{fs nx cp sg a vs}(h:(CQ fs nx cp sg&&(AP a.data.toList&&DO vs))=false):DF fs nx cp sg a vs=C6.ai:=by unfold DF;rw[h];rfl
def Vb{fs nx cp sg a vs}(c:CQ fs nx cp sg=true)(d:AP a.data.toList=true)(b:DO vs=true):DF fs nx cp sg a vs=CX fs nx cp sg a vs:=by unfold DF;rw[c,d,b];rfl
def VO{fs nx cp sg}(h:CQ fs nx cp sg=true):0<=cp/\cp<=40/\(fs.length:Int)<=cp/\1<=nx/\nx<=1000001:=by
 simp only[CQ,Hn,ym,decide_eq_true_eq]at h;omega
def zml(a c fs nx cp sg d sa l vs w)(hv:Cs w a fs)(t:Cj w sa vs)(k:fs.length<=c)(hl:fs.length<=1048576)(g:∀f∈fs,A6 f)(n:d.size<=maxLen)(z:vs.length<=1048576)(x:∀v∈vs,v.O.size<=maxLen)(p:(CQ fs nx cp sg&&(AP d.data.toList&&DO vs))=false) :
  Ca 60 #[.agg #[.slice a fs.length c,I6 nx,I6 cp,.bool sg],.string d,.slice sa vs.length l] w λe w'=>
   (∃q r,e=.returned (C6.ai.val q r)/\DN (λb=>w.heap.size<=b) w' q C6.ai.fs/\C6.ai.fs.length<=r)/\Bw w w':=by
 cases y:CQ fs nx cp sg
 .go_enter func60,ntmps60;go_wp2_with (go_at_call 115;refine(ML a c fs nx cp sg _ (hv.e Br) k hl g).rtn λw1 O=>?_;obtain⟨af,ai⟩:=AU O);refine bodyPost_ret (v:=C6.ai.val none 0) u_ rfl ⟨⟨none,0,rfl,λi f hf=>OH,yn _⟩,?_⟩;exact ir
 rw[y,YK]at p;cases u:AP d.data.toList
 focus
  go_enter func60,ntmps60;go_wp2_with (first|(go_at_call 115;refine(ML a c fs nx cp sg _ (hv.e Br) k hl g).rtn λw1 O=>?_;obtain⟨af,ai⟩:=AU O)|(go_at_call 116;refine(J6 d _ n).j ?_;rintro e w' ⟨rfl,rfl⟩)|fail);refine bodyPost_ret (v:=C6.ai.val none 0) u_ rfl ⟨⟨none,0,rfl,λi f hf=>OH,yn _⟩,?_⟩;have hB:Bw w _:=Br.thn O
 rotate_left
 focus
  rw[u,YK]at p;go_enter func60,ntmps60;go_wp2_with (first|(go_at_call 115;refine(ML a c fs nx cp sg _ (hv.e Br) k hl g).rtn λw1 O=>?_;obtain⟨af,ai⟩:=AU O;have m:Bw w w1:=(Br.thn O);have B:w.heap.size+1<w1.heap.size:=yg qf O.size)|(go_at_call 116;refine(J6 d _ n).j ?_;rintro e w' ⟨rfl,rfl⟩)|(go_at_call 117;refine(RV sa l vs _ (t.e m) z x).rtn λA o=>?_;obtain⟨s,C⟩:=AU o)|fail);refine bodyPost_ret (v:=C6.ai.val none 0) (by simp[results,results60,go_sem,af,s,B,C6.val,C6.ai]) rfl ⟨⟨none,0,rfl,λi f hf=>OH,yn _⟩,?_⟩;have hB:Bw w A:=m.thn o
 rotate_left
 all_goals
  exact(((((hB.setCell qf _).setCell qf _).setCell qf _).setCell qf _).setCell qf _).setCell qf _
def iw(h:P:=by rw[HE.o];exact⟨⟨a2,c2,rfl,(ah.kept (λg hg=>O.block g (by have:=(ah.range hg).1;omega))).on.j (λb hb=>by have:=hb.1;omega),PA ah.aa⟩,am.c (O.e (by omega))⟩):=h
def zo3(a c fs nx cp sg d sa x vs w)(hv:Cs w a fs)(C:Cj w sa vs)(hc:fs.length<=c)(hl:fs.length<=1048576)(W:∀f∈fs,A6 f)(aZ:d.size<=maxLen)(M:vs.length<=1048576)(aQ:∀v∈vs,v.O.size<=maxLen)(aV:CQ fs nx cp sg=true)(bc:AP d.data.toList=true)(bf:DO vs=true) :
  Ca 60 #[.agg #[.slice a fs.length c,I6 nx,I6 cp,.bool sg],.string d,.slice sa vs.length x] w λe w'=>
   (∃Z c',e=.returned ((CX fs nx cp sg d vs).val Z c')/\DN (λb=>w.heap.size<=b) w' Z (CX fs nx cp sg d vs).fs/\(CX fs nx cp sg d vs).fs.length<=c')/\Bw w w':=by
 have n:∀f∈fs,f.v.length<=1048576:=λf hf=>(W f hf).2.1;obtain⟨n1,n2,n3,n4,n5⟩:=VO aV;go_enter func60,ntmps60;go_wp2_with (first|(go_at_call 115;refine(ML a c fs nx cp sg _ (hv.e Br) hc hl W).rtn λw0 i=>?_;obtain⟨a7,a6⟩:=AU i;have N:Bw w w0:=(Br.thn i);have I:w.heap.size+1<w0.heap.size:=yg qf i.size;have aB:w.heap.size<w0.heap.size:=qd)|(go_at_call 116;refine(J6 d _ aZ).j ?_;rintro e w' ⟨rfl,rfl⟩)|(go_at_call 117;refine(RV sa x vs _ (C.e N) M aQ).rtn λk m=>?_;obtain⟨a9,a8⟩:=AU m)|fail);have E:Bw w k:=N.thn m;have aR:w.heap.size+1<k.heap.size:=yg I m.size;obtain⟨R,hR,s⟩:∃R:Bl,Bk k (w.heap.size+1) R 87/\R.size=6:=⟨_,(m.block _ I).c ((i.block _ qf).c (FP _ _ _ qf)),rfl⟩
 have aU:Bk k (w.heap.size) ((MP a fs.length c nx cp sg).toArray) 27:=(m.block _ aB).c ((i.block _ qe).c ((yN _ _ _ qf).c (FP _ _ _ rfl)));refine(VH a c fs nx cp sg k (hv.e E) hl n).j ?_;rintro e L ⟨⟨a2,c2,aS,rfl,aN⟩,y⟩;obtain⟨aW,aM⟩:=An (Es aU y) (Es hR y);have D:Bw w L:=E.thn y;have bd:=y.size;go_wp2_with (first|(refine Ec qh 27 (.tmp 7) (.tmp 24) qh L.heap.size (MP a2 fs.length c2 nx cp sg) qh qh _ 27 (FP _ _ _ rfl) qh X7 (l_ _ _ _ _ _ _) ?_;intro Y aT r;have J:=Ad (U2 aW r))|(refine iR qh 27 (.tmp 3) qh w.heap.size (MP a fs.length c nx cp sg) qh 27 (0,0) J _ underlying27 qh X7 ?_)|fail);have H:=EQ r;have a0:=ZI r;have B:Bw w Y:=D.thn H;obtain⟨aE,aG⟩:=An (U2 aM r) (aN.e H);refine(pD a c fs nx cp sg 0 d sa x vs Y (hv.e B) (C.e B) hl n).rtn λK l=>?_;obtain⟨aP,aO,u,ah⟩:=BP (Es J l) (Es aT l) (Es aE l) (aG.e l);have am:Bw w K:=B.thn l;have a4:=l.size;have aH:=C.e am;obtain⟨q0,q1,q2,q3⟩:=LB aP;obtain⟨p0,p1,p2,p3⟩:=LB aO;generalize t:F_ sg 0 d vs fs=T;by_cases q:0<T
 .have HE:=Ad (show CX fs nx cp sg d vs=⟨fs,nx,cp,sg,2,T⟩ by unfold CX;rw[t,if_pos q]);go_wp2_with (first|(refine Ec qh 87 (.tmp 6) (.tmp 34) qh (w.heap.size+1) (C6.cells ⟨fs,nx,cp,sg,2,T⟩ a2 c2) qh qh R 87 u s IW (C6.one _ _ _) ?_;intro G ai O)|fail)
  try go_frame
  refine bodyPost_ret (v:=C6.val ⟨fs,nx,cp,sg,2,T⟩ a2 c2) qR rfl ?_;exact iw
 by_cases af:(fs.length:Int)=cp
 .have HE:=Ad (show CX fs nx cp sg d vs=⟨fs,nx,cp,sg,3,0⟩ by unfold CX;rw[t,if_neg q,if_pos af]);have aY:((fs.length:Int)==cp)=true:=Sa;go_wp2_with (first|(refine Ec qh 87 (.tmp 6) (.tmp 43) qh (w.heap.size+1) (C6.cells ⟨fs,nx,cp,sg,3,0⟩ a2 c2) qh qh R 87 u s IW (C6.one _ _ _) ?_;intro G ai O)|fail)
  try go_frame
  refine bodyPost_ret (v:=C6.val ⟨fs,nx,cp,sg,3,0⟩ a2 c2) qR rfl ?_;exact iw
 have aY:((fs.length:Int)==cp)=false:=Sa;by_cases p:1000000<nx
 .have HE:=Ad (show CX fs nx cp sg d vs=⟨fs,nx,cp,sg,4,0⟩ by unfold CX;rw[t,if_neg q,if_neg af,if_pos p]);go_wp2_with (first|(refine Ec qh 87 (.tmp 6) (.tmp 49) qh (w.heap.size+1) (C6.cells ⟨fs,nx,cp,sg,4,0⟩ a2 c2) qh qh R 87 u s IW (C6.one _ _ _) ?_;intro G ai O)|fail)
  try go_frame
  refine bodyPost_ret (v:=C6.val ⟨fs,nx,cp,sg,4,0⟩ a2 c2) qR rfl ?_;exact iw
 have HE:=Ad (show CX fs nx cp sg d vs=⟨fs++[⟨nx,d,vs⟩],nx+1,cp,sg,0,nx⟩ by unfold CX;rw[t,if_neg q,if_neg af,if_neg p]);go_wp2_with (first|fail);refine(oj a2 c2 fs aS nx cp sg d sa x vs _ k.heap.size K ah.dW (λb hb=>hb.2.1) aH hl M qd qd qd).j ?_;rintro e w5 ⟨⟨z,A,rfl,aI,ay⟩,U⟩;have aX:=Ad ((U.block (w.heap.size+1) aR).c u);go_wp2_with (first|(refine Ec qh 87 (.tmp 6) (.tmp 53) qh (w.heap.size+1) (C6.cells ⟨fs++[⟨nx,d,vs⟩],nx+1,cp,sg,0,nx⟩ z A) qh qh R 87 aX s IW (C6.one _ _ _) ?_;intro G ai O)|fail)
 try go_frame
 refine bodyPost_ret (v:=C6.val ⟨fs++[⟨nx,d,vs⟩],nx+1,cp,sg,0,nx⟩ z A) qR rfl ?_;rw[HE.o];refine⟨⟨z,A,rfl,?_,by rw[yM];exact ay⟩,(am.c (U.j E.size)).c (O.e qd)⟩;exact(aI.kept (λb hz _=>O.block b Xx)).j (λb hz=>Xx)
def r_(a c fs nx cp sg d sa g vs w)(hv:Cs w a fs)(n:Cj w sa vs)(l:fs.length<=c)(hl:fs.length<=1048576)(k:∀f∈fs,A6 f)(j:d.size<=maxLen)(O:vs.length<=1048576)(o:∀v∈vs,v.O.size<=maxLen) :
  Ca 60 #[.agg #[.slice a fs.length c,I6 nx,I6 cp,.bool sg],.string d,.slice sa vs.length g] w λe w'=>
   (∃i m,e=.returned ((DF fs nx cp sg d vs).val i m)/\DN (λb=>w.heap.size<=b) w' i (DF fs nx cp sg d vs).fs/\(DF fs nx cp sg d vs).fs.length<=m)/\Bw w w':=by
 cases h:(CQ fs nx cp sg&&(AP d.data.toList&&DO vs))
 .rw[Vg h];exact zml a c fs nx cp sg d sa g vs w hv n l hl k j O o h
 simp only[ym]at h;rw[Vb h.1 h.2.1 h.2.2];exact zo3 a c fs nx cp sg d sa g vs w hv n l hl k j O o h.1 h.2.1 h.2.2
def jx(fs:Ab)(i:Nat):ByteArray:=match fs[i]? with|some f=>f.E|none=>ByteArray.empty
def Mz(fs:Ab)(nx cp:Int)(sg:Bool)(tag:Int)(cls:ByteArray)(vs:AH)(i:Nat):C6:=
 if 0<F_ sg tag cls vs fs then⟨fs,nx,cp,sg,2,F_ sg tag cls vs fs⟩ else if 1000000<nx then⟨fs,nx,cp,sg,4,0⟩ else⟨fs.eraseIdx i++[⟨nx,cls,vs⟩],nx+1,cp,sg,0,nx⟩
def CA(fs:Ab)(nx cp:Int)(sg:Bool)(tag:Int)(vs:AH):C6:=
 if CQ fs nx cp sg&&DO vs then(match Bb tag fs with|none=>⟨fs,nx,cp,sg,5,0⟩|some i=>Mz fs nx cp sg tag (jx fs i) vs i) else C6.ai
def Vh{fs nx cp sg tag vs}(h:(CQ fs nx cp sg&&DO vs)=false):CA fs nx cp sg tag vs=C6.ai:=by unfold CA;rw[h];rfl
def VB{fs nx cp sg tag vs}(b:CQ fs nx cp sg=true)(c:DO vs=true)(a:Bb tag fs=none):CA fs nx cp sg tag vs=⟨fs,nx,cp,sg,5,0⟩:=by unfold CA;rw[b,c,a];rfl
def VA{fs nx cp sg tag vs i f}(c:CQ fs nx cp sg=true)(d:DO vs=true)(a:Bb tag fs=some i)(b:fs[i]?=some f):CA fs nx cp sg tag vs=Mz fs nx cp sg tag f.E vs i:=by
 unfold CA jx;rw[c,d,a];simp only[KB,if_true,b]
def pC{fs nx cp sg tag T a vs i}(c:F_ sg tag a vs fs=T)(b:0<T):Mz fs nx cp sg tag a vs i=⟨fs,nx,cp,sg,2,T⟩:=by
 unfold Mz;rw[c,if_pos b]
def pg{fs nx cp sg tag T a vs i}(d:F_ sg tag a vs fs=T)(b:¬0<T)(c:1000000<nx):Mz fs nx cp sg tag a vs i=⟨fs,nx,cp,sg,4,0⟩:=by
 unfold Mz;rw[d,if_neg b,if_pos c]
def o9{fs nx cp sg tag T a vs i}(d:F_ sg tag a vs fs=T)(b:¬0<T)(c:¬1000000<nx):Mz fs nx cp sg tag a vs i=⟨fs.eraseIdx i++[⟨nx,a,vs⟩],nx+1,cp,sg,0,nx⟩:=by
 unfold Mz;rw[d,if_neg b,if_neg c]
def nQ(a c fs xs nx cp sg f sa B base w)(s:Cg w base (.slice a fs.length c) fs.length fs xs)(aD:Cj w sa f.v)(hl:fs.length<=1048576)(aE:f.v.length<=1048576)(hbase:base<=w.heap.size)(h1:0<=f.tag)(I:f.tag<=1000000) :
  Ca 218 #[.agg #[.slice a fs.length c,I6 nx,I6 cp,.bool sg],.agg #[I6 f.tag,.string f.E,.slice sa f.v.length B]] w λe w'=>
   (∃R Y A,e=.returned (C6.val ⟨fs++[f],f.tag+1,cp,sg,0,f.tag⟩ R Y)/\Cg w' base (.slice R (fs++[f]).length Y) (fs++[f]).length (fs++[f]) A)/\Below base w w':=by
 have aM:IntKind.i64.wrap (f.tag+1)=f.tag+1:=by rw[Yh];omega
 have aQ:w.heap.size<w.heap.size+1+1:=qd;obtain⟨t,q,aI⟩:=AK s (λg(b:(Value.slice a fs.length c).ownBlock=some g)=>(s.aa.lt g b).2) (λg(b:SG (.slice a fs.length c) xs g)=>s.range b);go_enter func218,ntmps218;go_wp2_with fail
 go_region_law (first|(go_simp;go_at_call 259;refine(sS f sa B _ (aD.e ?_) aE).j ?_;exact Cq.drew;rintro e l ⟨⟨T,U,rfl,L⟩,O⟩;obtain⟨n,r⟩:=kR O;have N:=Ad L;clear L;have x:=Ad ((t.e Cq.drew).e O);have aK:w.heap.size+1+1<l.heap.size:=yg qf O.size;have aH:w.heap.size+1<l.heap.size:=qd;have aB:w.heap.size<l.heap.size:=qd)|(refine GG qh (.tmp 6) (.tmp 9) 25 qh base 145 _ 3 48 underlying25 QX qh qd _ fs.length _ qh (x.aa.alloc _) (some ⟨l.heap.size,0,none⟩) 1 1 qh (Bx f (.slice T f.v.length U)) qh (λe=>qo) (by exact RS _ _ _) (RT _ _ _ _) qj qd (by have I:=O.size;simp at I⊢;omega) ?_;intro G W w2 aA i D;obtain⟨H,K⟩:=TG i q w.heap.size Bg aB;obtain⟨M,Z⟩:=TG i q (w.heap.size+1) qd aH;obtain⟨C,J⟩:=TG i q (w.heap.size+1+1) qd aK;have aN:=λj=>(H j).c (n w.heap.size j qe);have aL:=λj=>(K j).c (r w.heap.size j qe);have aO:=λj=>(M j).c (n (w.heap.size+1) j qf);have aR:=λj=>(Z j).c (r (w.heap.size+1) j qf);have aC:=λj=>(C j).c (n (w.heap.size+1+1) j qf);have aP:=λj=>(J j).c (r (w.heap.size+1+1) j qf);clear H K M Z C J n r)|fail)
 all_goals
  have p:=N.o;have hS:=(x.e Ar).snoc ⟨p.1,(C4 p.2 qe).alloc _⟩ (VC t.aa p.2 qe) (λy d=>by
    obtain⟨f',_,aG⟩:=t.bN d;exact VC aG p.2 qe) aA i D
  have HS:=Ad hS;go_wp2;have m:(fs++[f]).length=fs.length+1:=qf;refine bodyPost_ret (v:=C6.val ⟨fs++[f],f.tag+1,cp,sg,0,f.tag⟩ G W) (by simp[results,results218,go_sem,aC,C6.val]) rfl ⟨⟨G,W,xs++[.slice T f.v.length U],rfl,?_⟩,?_⟩
  .rw[m];refine HS.kept ?_;intro g b;have k:g≠w.heap.size/\g≠w.heap.size+1+1:=by
    rcases b with b|⟨y,d,b⟩
    .rcases D.o with e|e
     .have:=q g (e.z.c b);omega
     have:=e.z.c b;simp at this;omega
    rcases yp.1 d with d|d
    .have:=(aI g (.inr ⟨y,d,b⟩)).2;omega
    simp at d;subst d;have:=(N.2.lt g b).1;simp at this;omega
   have k1:∀(v:Aa)o u,(v.setCell ⟨w.heap.size,o,none⟩ u).heap[g]?=v.heap[g]?:=λv o u=>yD _ _ _ _ k.1;have k2:∀(v:Aa)o u,(v.setCell ⟨w.heap.size+1+1,o,none⟩ u).heap[g]?=v.heap[g]?:=λv o u=>yD _ _ _ _ k.2;simp only[k1,k2]
  have aF:Below base w l:=(Cq.drew.c (O.j qe)).j hbase;have aJ:Below base w w2:=(aF.alloc qd _).grown i qe (λj hj=>(x.aa.lt j hj).1);exact(((((((aJ.setCell qe _).setCell qe _).setCell qe _).setCell qe _).setCell qe _).setCell qe _).setCell qe _).setCell qe _
end Go.Proofs.YtikojfajahnhgaaGreat
