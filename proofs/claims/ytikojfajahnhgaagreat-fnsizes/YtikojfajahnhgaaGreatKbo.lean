import Derived.Test.YtikojfajahnhgaaGreatKaz
import Derived.Test.YtikojfajahnhgaaGreatKbi
set_option linter.all false
set_option maxHeartbeats 3200000
set_option maxRecDepth 100000
namespace Go.Proofs.YtikojfajahnhgaaGreat
attribute [local simp] At I6 Pn mzI
attribute [local go_sem] At I6 Pn
open Go.RowKit Go.Proofs.Tryz
variable{P:Prop}
section
attribute [local go_sem ↓] wp_at_zero wp_at_succ
def Pp:Option Nat->Int
 |some i=>i
 |none=>-1
def Xy(a c fs tag w)(hv:Bz w a fs)(hl:fs.length<=1048576) :
  Ca 121 #[.slice a fs.length c,I6 tag] w λe w'=>e=.returned (I6 (Pp (AD tag fs)))/\w'=w:=by
 go_enter func121,ntmps121;go_wp2
 go_loop [8] (λi=>∃(k:Nat),k<=fs.length/\i=I6 k/\AD tag fs=(AD tag (fs.drop k)).map (·+k)) (λi=>fs.length-(intOf i).toNat)
 case atStart=>exact⟨0,qd,rfl,qe⟩
 case round=>
  obtain⟨k,l,rfl,g⟩:=hrel;have HG:=Aa g;clear g;by_cases j:k<fs.length
  .obtain⟨f,O⟩:=Ba j;obtain⟨b,o,rfl,m,_,_,_,_,_⟩:=hv k f O;have d:=Aa (CF O);cases ht:(f.tag==tag)
   .go_wp2
    go_round
    case rel=>
     refine⟨k+1,qd,qm,?_⟩;rw[HG.o,d.o,AD,if_neg Mq,Option.map_map];congr 1
     funext x
     simp;omega
    case measure=>simp[intOf];omega
   go_wp2;go_ret;refine⟨EB ?_,rfl⟩;rw[HG.o,d.o,AD,if_pos Mq];simp[Pp]
  go_wp2;go_ret;refine⟨EB ?_,rfl⟩;exact QK
def Tf(a c fs nx cp sg w)(hv:Bz w a fs)(hl:fs.length<=1048576)(m:∀f∈fs,f.s.length<=1048576) :
  Ca 118 #[.agg #[.slice a fs.length c,I6 nx,I6 cp,.bool sg]] w λe w'=>
   (∃i g xs,e=.returned (.agg #[.slice i fs.length g,I6 nx,I6 cp,.bool sg])/\Bk w' w.heap.size (.slice i fs.length g) fs.length fs xs)/\Bw w w':=by
 go_enter func118,ntmps118;go_wp2
 go_region_held3 (λw'=>At w' w.heap.size 0 (.slice a fs.length c)/\At w' w.heap.size 1 (I6 nx)/\At w' w.heap.size 2 (I6 cp)/\At w' w.heap.size 3 (.bool sg)) ((go_split_ands;refine ⟨?_,?_,?_,?_⟩ <;> first | (simp[*,go_sem];done) | exact zab O (by simp[*,go_sem]) | (simp[World.cell?_setCell_other];exact zab O (by simp[*,go_sem]))))
  (first|(go_at_call 177;refine(zlV a c fs _ (hv.d ?_) hl m).j ?_;exact AX.drew;rintro e k ⟨⟨a1,b,xs,rfl,l⟩,O⟩;obtain⟨n,o⟩:=Aw O))
 go_wp2;refine bodyPost_ret (v:=.agg #[.slice a1 fs.length b,I6 nx,I6 cp,.bool sg]) (by simp[results,results118,go_sem,n]) rfl ⟨⟨a1,b,xs,rfl,?_⟩,?_⟩
 .exact((((l.set qe _).set qe _).set qe _).set qe _).lower qf
 have hB:Bw w k:=AX.drew.c (O.j qf);exact oR
def Gr(tag:Int)(f:F):Bool:=f.tag != tag
structure LI(Z:Nat->Prop) (w0 w:World) (v:Value) (n:Nat) (fs:List F) (xs:List Value):Prop where
 num:n=fs.length
 len:xs.length=fs.length
 Q:w.ownsRow w0.heap.size 145 3 v n (A7 fs xs)
 P:∀(i:Nat)(f:F)(x:Value),fs[i]?=some f->xs[i]?=some x->∃a c,x=.slice a f.s.length c/\Fv Z w0 a f.s
def LI.at{Z w0 w a n c fs xs}(h:LI Z w0 w (.slice a n c) n fs xs)(m:Bw w0 w):DT (λb=>Z b∨(w0.heap.size<=b/\b<w.heap.size)) w a fs:=by
 intro i f d;have o:i<fs.length:=(ye.1 d).1;have k:xs[i]?=some (xs[i]'(by rw[h.len];exact o)):=yH _;obtain⟨q,p,e,t⟩:=h.P i f _ d k;have key:=λj(hj:j<3)=>Oy fs xs h.len i f _ d k j hj;obtain⟨g,rfl,_,h0,_⟩:=BM h.Q ((key 0 qd).c rfl);obtain⟨u,s,_,h1,_⟩:=BM h.Q ((key 1 qd).c rfl);obtain⟨v,O,_,h2,_⟩:=BM h.Q ((key 2 qd).c rfl);cases s;cases O;rw[e]at h2;exact⟨g,0,.inr (h.Q.lt g rfl),rfl,qD,qw,q,p,qu,(t.kept (λb _ r=>m.block b r)).j (λb l=>.inl l)⟩
def LI.snoc{Z w0 w w' v e n fs xs f x}(h:LI Z w0 w v n fs xs)(j:∃a c,x=.slice a f.s.length c/\Fv Z w0 a f.s)(ho:w'.ownsRow w0.heap.size 145 3 e (n+1) (A7 fs xs++A4 f x)):LI Z w0 w' e (n+1) (fs++[f]) (xs++[x]):=by
 refine⟨by simp[h.num],by simp[h.len],ZU,?_⟩;intro i g y b d;by_cases hi:i<fs.length
 .rw[yr hi]at b;rw[yr T5]at d;exact h.P i g y b d
 have O:i<(fs++[f]).length:=(ye.1 b).1;simp at O;obtain rfl:i=fs.length:=qd;rw[yx AH]at b;rw[yx ZV,h.len]at d;simp at b d;subst b;subst d;exact j
def nG(Z a c fs tag w)(B:DT Z w a fs)(hl:fs.length<=1048576) :
  Ca 122 #[.slice a fs.length c,.int .i64 tag] w λe w'=>
   (∃g d xs,e=.returned (.slice g (fs.filter (Gr tag)).length d)/\LI Z w w' (.slice g (fs.filter (Gr tag)).length d) (fs.filter (Gr tag)).length (fs.filter (Gr tag)) xs)/\Bw w w':=by
 go_enter func122,ntmps122;go_wp2
 go_loopw [5,10] (λv i wr=>∃(k n:Nat)(g:Option Addr)(d:Nat)(xs:List Value),k<=fs.length/\n<=k/\i=.int .i64 k/\v=.slice g n d/\LI Z w wr (.slice g n d) n ((fs.take k).filter (Gr tag)) xs/\Bw w wr) (λ_ i _=>fs.length-(intOf i).toNat)
 case atStart=>exact⟨0,0,none,0,[],qd,qd,rfl,rfl,⟨rfl,rfl,yN _ _ _ _,λi f x hf=>OY⟩,An⟩
 case round=>
  obtain⟨k,n,g,d,xs,M,K,rfl,rfl,p,m⟩:=hrel;have l:=Aa p;by_cases G:k<fs.length
  .obtain⟨f,r⟩:=Ba G;obtain⟨b,o,_,rfl,A,u,s,cs,z,t⟩:=B k f r;have N:=zab m A;have L:=zab m u;have J:=zab m z;have O:w.heap.size<=wr.heap.size:=m.size;clear p B A u z;cases y:(f.tag != tag)
   .have q:Hid ((fs.take (k+1)).filter (Gr tag)=(fs.take k).filter (Gr tag)):=by
     show _=_;rw[Mh fs k f r,yM];simp[Gr,y]
    go_wp2;go_roundw
    case rel=>exact⟨k+1,n,g,d,xs,qd,qd,qm,rfl,by rw[q.o];exact⟨l.o.num,l.o.len,l.o.Q.alloc _,l.o.P⟩,m.alloc O _⟩
    case measure=>simp[intOf];omega
   have q:Hid ((fs.take (k+1)).filter (Gr tag)=(fs.take k).filter (Gr tag)++[f]):=by
    show _=_;rw[Mh fs k f r,yM];simp[Gr,y]
   go_wp2_with (at_builtin;refine CN qi (.tmp 18) (.tmp 20) 25 qi w.heap.size 145 _ 3 48 underlying25 Of qi qd _ n _ qi ((l.o.Q.alloc _).alloc _) (some ⟨wr.heap.size+1,0,none⟩) 1 1 qi (A4 f (.slice s f.s.length cs)) qi (λe=>qo) (by rw[<-Wy];exact OG _ _ _) (OL _ _ _ _) qj qd qf ?_;intro H E D I C R);have hS:=l.o.snoc (w':=D) ⟨s,cs,rfl,t⟩ I.o;go_roundw
   case rel=>
    rw[<-q.o]at hS;exact⟨k+1,n+1,H,E,_,qd,qd,qm,rfl,hS,((m.alloc O _).alloc qf _).grown C.o qf (λj hj=>(l.o.Q.lt j hj).1)⟩
   case measure=>simp[intOf];omega
  go_wp2;go_ret;obtain rfl:k=fs.length:=qd;rw[yT AH]at p;obtain rfl:=p.num;exact⟨⟨g,d,xs,rfl,p⟩,m⟩
end
structure C6 where
 fs:List F
 nx:Int
 cp:Int
 sg:Bool
 am:Int
 tag:Int
def C6.ad:C6:=⟨[],0,0,false,1,0⟩
def C6.val(r:C6)(a:Option Addr)(c:Nat):Value:=.agg #[.slice a r.fs.length c,.int .i64 r.nx,.int .i64 r.cp,.bool r.sg,.int .i64 r.am,.int .i64 r.tag]
def CV(fs:List F)(nx cp:Int)(sg:Bool)(tag:Int):C6:=
 if B_ fs nx cp sg then(match AD tag fs with|none=>⟨fs,nx,cp,sg,5,0⟩|some i=>⟨fs.eraseIdx i,nx,cp,sg,0,tag⟩) else C6.ad
def jS{fs nx cp sg tag}(h:B_ fs nx cp sg=false):CV fs nx cp sg tag=C6.ad:=by unfold CV;rw[h];rfl
def Tc{fs nx cp sg tag}(h:B_ fs nx cp sg=true)(a:AD tag fs=none):CV fs nx cp sg tag=⟨fs,nx,cp,sg,5,0⟩:=by unfold CV;rw[h,a];rfl
def S8{fs nx cp sg tag i}(h:B_ fs nx cp sg=true)(a:AD tag fs=some i):CV fs nx cp sg tag=⟨fs.eraseIdx i,nx,cp,sg,0,tag⟩:=by unfold CV;rw[h,a];rfl
def Qd{last}:∀{fs:List F},BN last fs=true->∀f∈fs,last<f.tag
 |[],_,f,hf=>by simp at hf
 |g::r,h,f,hf=>by
  simp only[BN,Hi,yi,decide_eq_true_eq]at h
  rcases yG.1 hf with rfl|a
  .exact h.1.1
  have:=Qd h.2 f a
  omega
def XT{tag}:∀{fs:List F}{last:Int}{i:Nat},BN last fs=true->AD tag fs=some i->fs.filter (Gr tag)=fs.eraseIdx i
 |[],_,_,_,h=>by simp[AD]at h
 |f::r,last,i,hg,h=>by
  have O:BN f.tag r=true:=by simp only[BN,yi]at hg;exact hg.2
  unfold AD at h
  by_cases a:f.tag=tag
  .rw[if_pos a]at h
   cases h
   rw[List.filter_cons,List.eraseIdx_zero]
   have:Gr tag f=false:=by simp[Gr,a]
   rw[this]
   simp only[Yn,if_false,List.tail_cons]
   rw[Yk]
   intro g b
   have:=Qd O g b
   simp[Gr]
   omega
  rw[if_neg a]at h
  obtain⟨j,hj,rfl⟩:=Yd.1 h
  rw[List.filter_cons,Wa]
  have:Gr tag f=true:=by simp[Gr,a]
  rw[this,if_pos rfl,XT O hj]
def Qr{fs nx cp sg}(h:B_ fs nx cp sg=true):BN 0 fs=true:=by
 simp only[B_,FO,C8,yi]at h;exact h.1.2.2.2.1.2
def Ot{tag}:∀{fs:List F}{i:Nat},AD tag fs=some i->i<fs.length
 |[],_,h=>by simp[AD]at h
 |f::r,i,h=>by
  unfold AD at h
  split at h
  .cases h;simp
  obtain⟨j,hj,rfl⟩:=Yd.1 h
  have:=Ot hj
  simp
  omega
def ZM(h:P:=by have hB:Bw w w1:=AX.thn O;exact(((((hB.setCell (by simp) _).setCell (by simp) _).setCell (by simp) _).setCell (by simp) _).setCell (by simp) _).setCell (by simp) _):=h
def zkd(a c fs nx cp sg tag w)(hv:Bz w a fs)(K:fs.length<=c)(hl:fs.length<=1048576)(D:∀f∈fs,AJ f) :
  Ca 61 #[.agg #[.slice a fs.length c,I6 nx,I6 cp,.bool sg],I6 tag] w λe w'=>
   (∃M L,e=.returned ((CV fs nx cp sg tag).val M L)/\DT (λb=>w.heap.size<=b) w' M (CV fs nx cp sg tag).fs/\(CV fs nx cp sg tag).fs.length<=L)/\Bw w w':=by
 have aT:w.heap.size<w.heap.size+1+1:=qd;have q:∀f∈fs,f.s.length<=1048576:=λf hf=>(D f hf).2.1;cases E:B_ fs nx cp sg
 .rw[jS E];go_enter func61,ntmps61;go_wp2_with (go_at_call 115;refine(JT a c fs nx cp sg _ (hv.d AX) K hl D).rtn λw1 O=>?_;obtain⟨p,T⟩:=Aw O);refine bodyPost_ret (v:=C6.ad.val none 0) (by simp[results,results61,go_sem,p,C6.val,C6.ad]) rfl ⟨⟨none,0,rfl,λi f hf=>Nt,yk _⟩,?_⟩;exact ZM
 cases l:AD tag fs with
 |none=>
  rw[Tc E l];have aJ:Pp (AD tag fs) = -1:=by rw[l];rfl
  clear l;go_enter func61,ntmps61;go_wp2_with (go_at_call 115;refine(JT a c fs nx cp sg _ (hv.d AX) K hl D).rtn λw1 O=>?_;obtain⟨p,T⟩:=Aw O);have k:Bw w w1:=AX.thn O;have r:w.heap.size+1<w1.heap.size:=by have:=O.size;simp at this;omega
  refine(Tf a c fs nx cp sg w1 (hv.d k) hl q).j ?_;rintro e g ⟨⟨C,x,aL,rfl,z⟩,m⟩;have n:Bw w g:=k.thn m;obtain⟨H,aM⟩:=Aw m;have I:w.heap.size+1<g.heap.size:=yg r m.size;have aF:w.heap.size<g.heap.size:=qd;have aD:w.heap.size<w1.heap.size:=qd;have J:=hv.d n;go_wp2_with (go_at_call 121;refine(Xy a c fs tag _ (J.d ?_) hl).j ?_;exact Aj;rintro e w3 ⟨rfl,rfl⟩);refine bodyPost_ret (v:=C6.val ⟨fs,nx,cp,sg,5,0⟩ C x) (by simp[results,results61,go_sem,p,H,C6.val,r,I]) rfl ⟨⟨C,x,rfl,?_,L_ z.Q⟩,?_⟩
  .exact(((((((z.set qf _).set qf _).set qf _).set qf _).set qf _).set qf _).df _).on.j λb hb=>yh k.size hb.1
  .exact((((((n.setCell qe _).setCell qe _).setCell qe _).setCell qe _).setCell qe _).setCell qe _).alloc (by simp[World.setCell];omega) _
 |some i=>
  rw[S8 E l];have R:=XT (Qr E) l;have aJ:Pp (AD tag fs)=(i:Int):=by rw[l];rfl
  have W:=Aa R;clear l R;go_enter func61,ntmps61;go_wp2_with (go_at_call 115;refine(JT a c fs nx cp sg _ (hv.d AX) K hl D).rtn λw1 O=>?_;obtain⟨p,T⟩:=Aw O);have k:Bw w w1:=AX.thn O;have r:w.heap.size+1<w1.heap.size:=by have:=O.size;simp at this;omega
  refine(Tf a c fs nx cp sg w1 (hv.d k) hl q).j ?_;rintro e g ⟨⟨C,x,aL,rfl,z⟩,m⟩;have n:Bw w g:=k.thn m;obtain⟨H,aM⟩:=Aw m;have I:w.heap.size+1<g.heap.size:=yg r m.size;have aF:w.heap.size<g.heap.size:=qd;have aD:w.heap.size<w1.heap.size:=qd;have J:=hv.d n;have hZ:=λo=>(z.on.kept (w':=g.alloc o) (λb _ B=>yS _ _ _ B))
  go_wp2_with (first|(go_at_call 121;refine(Xy a c fs tag _ (J.d ?_) hl).j ?_;exact Aj;rintro e w3 ⟨rfl,rfl⟩)|(go_at_call 122;refine(nG _ C x fs tag _ (hZ _) hl).j ?_;rintro e G ⟨⟨N,U,aS,rfl,A⟩,t⟩;obtain⟨aH,aP⟩:=Aw t));rw[W.o]at A;have aN:g.heap.size<G.heap.size:=by have:=t.size;simp at this;omega
  have aQ:w.heap.size+1<G.heap.size:=qd;obtain⟨Z,ax⟩:=Ah (A.at t) (L_ A.Q);clear A;have aI:w.heap.size+1<g.heap.size+1:=qd;have aR:¬w.heap.size+1=g.heap.size:=qd;have aO:¬g.heap.size=w.heap.size+1:=qd;refine bodyPost_ret (v:=C6.val ⟨fs.eraseIdx i,nx,cp,sg,0,tag⟩ N U) (by simp[results,results61,go_sem,p,H,aH,C6.val,r,I,aI,W.o]) rfl ⟨⟨N,U,rfl,?_,ax.o⟩,?_⟩
  .refine DT.j (Z.o.kept ?_) (λb y=>by have:=n.size;have:=k.size;simp at y;omega);intro b y B;have Y:b≠g.heap.size:=by simp at y B;omega
   have aE:b≠w.heap.size+1:=by simp at y B;omega
   have k1:∀(v:World)o u,(v.setCell ⟨g.heap.size,o,none⟩ u).heap[b]?=v.heap[b]?:=λv o u=>yE _ _ _ _ Y;have k2:∀(v:World)o u,(v.setCell ⟨w.heap.size+1,o,none⟩ u).heap[b]?=v.heap[b]?:=λv o u=>yE _ _ _ _ aE;simp only[k1,k2]
  have aK:Bw w G:=(n.alloc qd _).c (t.j qf);exact((((((aK.setCell qf _).setCell qe _).setCell qe _).setCell qe _).setCell qe _).setCell qe _).setCell qe _
section
open Go.Maps
attribute [local go_sem ↓] wp_at_zero wp_at_succ
def Gc.stop{c fs k D}(h:Gc c fs k D)(f:k<=fs.length)(d:fs.length<=k):(((Maps.size D:Nat):Int)==(fs.length:Int))=decide ((fs.map Bi).Nodup):=by
 obtain rfl:k=fs.length:=qd;have b:=h.iff;rw[yT AH]at b;by_cases a:(fs.map Bi).Nodup
 .rw[decide_eq_true a];have:=b.2 a;simp[this]
 rw[decide_eq_false a];have:Maps.size D≠fs.length:=λe=>a (b.1 e);simp;omega
def zjY{H w w' P k R b n B}{D:DataW H}(h:w.ownsMap P k R b n D)(f:Below B w w')(d:b<B):w'.ownsMap P k R b n D:=by
 obtain⟨es,a,g,e⟩:=h;exact⟨es,a,(f.block b d).c g,e⟩
def nK(a c fs w)(hv:Bz w a fs)(hl:fs.length<=40)(J:∀f∈fs,Gf f)(N:∀f∈fs,(Lit.int .i64 f.tag).wf=true) :
  Ca 255 #[.slice a fs.length c] w λe w'=>
   e=.returned (.bool (decide ((fs.map Bi).Nodup)))/\Bw w w':=by
 obtain⟨y,K⟩:=KL.bD;have B:=Zd (P:=prog) (t:=398) underlying398;go_enter func255,ntmps255;go_wp2;clear B
 go_loopw [11] (λi wr=>∃(k:Nat)(D:DataW Unit),k<=fs.length/\i=.int .i64 k/\wr.ownsMap prog 382 (plainElem prog 3) w.heap.size k D/\Gc y fs k D/\Bw w wr) (mz fs.length)
 case atStart=>exact⟨0,.map [],qd,rfl,Wh _ _ _ _,Gc.start y fs,Aj⟩
 case round=>
  obtain⟨k,D,C,rfl,g,q,p⟩:=hrel;by_cases M:k<fs.length
  .obtain⟨f,O⟩:=Ba M;obtain⟨b,o,rfl,W,U,s,cs,T,r⟩:=hv.d p k f O;have m:=J f (yd O);have H:=N f (yd O);go_wp2;have v:Hid (wr.ownsMap prog 382 (plainElem prog 3) w.heap.size k D):=g;have Y:w.heap.size<wr.heap.size:=g.lt;clear g
   go_region_held3 (λw'=>At w' wr.heap.size 0 (.int .i64 f.tag)/\At w' wr.heap.size 1 (.string f.z)/\At w' wr.heap.size 2 (.slice s f.s.length cs)) ((go_split_ands;refine ⟨?_,?_,?_⟩ <;> first | (simp[*,go_sem];done) | exact zab l (by simp[*,go_sem]) | exact n.o.cell (zab l (by simp[*,go_sem])) qf))
    (first|(go_at_call 257;refine(U7 f s cs _ (r.d ?_) m.2.1).j ?_;exact Aj.drew;rintro e w' ⟨rfl,l⟩;obtain⟨R,L,A,x⟩:=(zjY (v.o.alloc _).drew l qf).update Lx (t:=398) underlying398 qj (K f m) (plainElem_int underlying3 H);have G:=Aa A;have n:=Aa x;clear A x))
   have I:Bw w R:=(p.c ((Aj.drew.c (l.j qe)).j p.size)).grown n.o (by have:=l.size;simp at this;omega) (λj hj=>by cases hj;exact yu _);have E:=q.step K (v.o.tidy Lx) O m (.lit (.int .i64 f.tag));clear L q;go_wp2;go_roundw
   case rel=>exact⟨k+1,_,qd,qm,G.o,E,I⟩
   case measure=>(simp;omega)
  have u:=λty=>g.len (t:=398) underlying398 ty;go_wp2;go_ret;exact⟨AL (q.stop C qd),p⟩
end
section
attribute [local go_sem ↓] wp_at_zero wp_at_succ
def UF{fs last}(e:∀f∈fs,AJ f)(d:∀f∈fs,Db f)(a:BN last fs=true):∀f∈fs,Gf f:=by
 induction fs generalizing last with
 |nil=>intro f b;simp at b
 |cons g r O=>
  intro f b;simp only[BN,Hi,C4,yi,decide_eq_true_eq]at a;rcases yG.1 b with rfl|i
  .exact⟨(e f qe).1,a.1.2.2.2.1,(d f qe).2⟩
  exact O (λx c=>e x (by simp[c])) (λx c=>d x (by simp[c])) a.2 f i
def wB(a c fs nx cp sg w)(hv:Bz w a fs)(hl:fs.length<=1048576)(q:∀f∈fs,AJ f)(m:FO fs nx cp=false) :
  Ca 213 #[.agg #[.slice a fs.length c,I6 nx,I6 cp,.bool sg]] w λe w'=>
   e=.returned (.bool (LV fs nx cp sg))/\Bw w w':=by
 have p:Hid (LV fs nx cp sg=false):=by unfold LV;rw[m];exact rfl
 have O:cp<0∨(0<=cp/\40<cp)∨(0<=cp/\cp<=40/\cp<fs.length)∨(0<=cp/\cp<=40/\(fs.length:Int)<=cp/\nx<1)∨(0<=cp/\cp<=40/\(fs.length:Int)<=cp/\1<=nx/\1000001<nx)∨(0<=cp/\cp<=40/\(fs.length:Int)<=cp/\1<=nx/\nx<=1000001/\C8 fs=false):=by
  rcases mL fs nx cp m with h|h|h|⟨b,g,i,k⟩|⟨b,g,i,_,l⟩|⟨b,g,i,_,l,n⟩
  .omega
  .omega
  .omega
  .by_cases l:nx<1
   .omega
   by_cases n:1000001<nx
   .omega
   exact .inr (.inr (.inr (.inr (.inr ⟨b,g,i,qd,qd,k⟩))))
  .omega
  omega
 clear m;rcases O with b|⟨b,g⟩|⟨b,g,i⟩|⟨b,g,i,k⟩|⟨b,g,i,k,l⟩|⟨b,g,i,k,l,n⟩
 all_goals
  go_enter func213,ntmps213;go_wp2_with (go_at_call 107;refine(Y_ a c fs _ (hv.d Aj) hl q).rtn λw' j=>?_;obtain⟨s,r⟩:=Aw j);go_ret
  first
  |exact⟨AL p.o.y,Aj⟩
  |exact⟨AL p.o.y,Aj.thn j⟩
end
section
open Go.Maps
attribute [local go_sem ↓] wp_at_zero wp_at_succ
def si{k:Nat}(h:k<=1048576):(Lit.int .i64 (k:Int)).wf=true:=by
 exact oE
end
section
attribute [local go_sem ↓] wp_at_zero wp_at_succ
def zok(a c fs nx cp sg w)(hv:Bz w a fs)(B:∀f∈fs,AJ f)(z:∀f∈fs,Db f)(j:FO fs nx cp=true) :
  Ca 213 #[.agg #[.slice a fs.length c,.int .i64 nx,.int .i64 cp,.bool sg]] w λe w'=>
   e=.returned (.bool (LV fs nx cp sg))/\Bw w w':=by
 have HR:Hid (LV fs nx cp sg=(Oh nx fs&&(!sg||decide ((fs.map Bi).Nodup)))):=by unfold LV;rw[j];exact rfl
 obtain⟨J,M,Z,u,D,H⟩:0<=cp/\cp<=40/\(fs.length:Int)<=cp/\C8 fs=true/\1<=nx/\nx<=1000001:=by
  unfold FO at j;simpa[yi] using j
 have I:∀f∈fs,Gf f:=UF (last:=0) B z (by simp only[C8,yi]at u;exact u.2);clear j;go_enter func213,ntmps213;go_wp2_with (go_at_call 107;refine(Y_ _ c fs _ (hv.d Aj) qd B).rtn λw' g=>?_;obtain⟨k,hf⟩:=Aw g);have N:w'.cell? ⟨w.heap.size,0,none⟩=some (.slice a fs.length c):=by rw[k _ _ qe];simp[go_sem]
 have C:w'.cell? ⟨w.heap.size,1,none⟩=some (.int .i64 nx):=by rw[k _ _ qe];simp[go_sem]
 have T:w'.cell? ⟨w.heap.size,3,none⟩=some (.bool sg):=by rw[k _ _ qe];simp[go_sem]
 have n:Bw w w':=Aj.thn g;clear k hf g J M D H;cases i:fs.getLast? with
 |none=>
  obtain rfl:fs=[]:=by simpa using i
  clear i
  go_quiet (fail)
  have O:Bw w (w'.drewN nq):=below_drewN n _;have t:=hv.d O;clear hv;cases sg
  all_goals
   go_wp2_with (go_at_call 255;refine(nK a c [] _ t qe (λf hf=>OY) (λf hf=>OY)).rtn λR s=>?_);go_ret
  .exact⟨AL (by rw[HR.o];rfl),O⟩
  .exact⟨AL (by rw[HR.o];rfl),O.thn s⟩
 |some l=>
  obtain⟨m,v⟩:∃m,fs.length=m+1:=⟨fs.length-1,by cases fs with|nil=>simp at i|cons x r=>simp⟩
  have L:fs[m]?=some l:=by rw[WN,v]at i;simpa using i
  obtain⟨b,o,rfl,A,_,_,_,_,_⟩:=(hv.d n) m l L;have y:w'.cell? ⟨b,o+(fs.length-1)*3,none⟩=some (.int .i64 l.tag):=by
   rw[show fs.length-1=m by omega];exact A
  have G:(0:Int)<=(fs.length:Int)-1:=qd;have K:(fs.length:Int)-1<(fs.length:Int):=qd;have Y:(0:Int)<(fs.length:Int):=qd;have z3:(1:Int)<=(fs.length:Int):=qd;clear A v;have W:decide (0<fs.length)=true:=by simp;omega
  have E:IntKind.i64.wrap ((fs.length:Int)-1)=(fs.length:Int)-1:=by rw[Yg];omega
  go_region_held3 (λq=>q.cell? ⟨w.heap.size,0,none⟩=some (.slice (some ⟨b,o,none⟩) fs.length c)/\q.cell? ⟨w.heap.size,1,none⟩=some (.int .i64 nx)/\q.cell? ⟨b,o+(fs.length-1)*3,none⟩=some (.int .i64 l.tag)) ((exact⟨N,C,y⟩)) (fail)
  have O:Bw w w'.drew:=n.drew;have t:=hv.d O;have HL:Hid (Oh nx fs=decide (l.tag<nx)):=by unfold Oh;rw[i];exact rfl
  clear hv y E G K;by_cases U:nx<=l.tag
  .go_wp2;go_ret;exact⟨AL (by rw[HR.o,HL.o,decide_eq_false qd];rfl),O⟩
  cases sg
  all_goals
   go_wp2_with (go_at_call 255;refine(nK (some ⟨b,o,none⟩) c fs _ t qd I (λf hf=>(z f hf).1)).rtn λR s=>?_);go_ret
  .exact⟨AL q_,O⟩
  exact⟨AL q_,O.thn s⟩
def JU(a c fs nx cp sg w)(hv:Bz w a fs)(hl:fs.length<=1048576)(d:∀f∈fs,AJ f)(g:∀f∈fs,Db f) :
  Ca 213 #[.agg #[.slice a fs.length c,I6 nx,I6 cp,.bool sg]] w λe w'=>
   e=.returned (.bool (B_ fs nx cp sg))/\Bw w w':=by
 rw[<-xd];cases b:FO fs nx cp
 .exact wB a c fs nx cp sg w hv hl d b
 exact zok a c fs nx cp sg w hv d g b
end
section
open Go.Deep
section
variable {H : Type} {enc : TypeId × Value -> H} {w : World} {base : Nat} {spare : Nat -> Bool} {held : Bool}
end
end
section
attribute [local go_sem ↓] wp_at_zero wp_at_succ
structure Mk(S:Nat->Prop) (w w':World):Prop where
 rest:Below 0 w w'
 block:∀g,g<w.heap.size->¬S g->w'.heap[g]?=w.heap[g]?
def Mk.refl(S w):Mk S w w:=⟨An,λ_ _ _=>rfl⟩
def Mk.c{S a b c}(h:Mk S a b)(k:Mk S b c):Mk S a c:=
 ⟨h.rest.c k.rest,λg d e=>(k.block g (yg d h.rest.size) e).c (h.block g d e)⟩
def Mk.set{S w p}(a:S p.block)(u):Mk S w (w.setCell p u):=
 ⟨An.setCell (yk _) _,λ_ _ b=>yE _ _ _ _ (λe=>b (e▸a))⟩
def Mk.d{S w w' B}(h:Mk S w w')(b:B<=w.heap.size)(a:∀g,S g->B<=g):Below B w w':=
 ⟨h.rest.os,h.rest.tape,h.rest.output,h.rest.size,λk c=>h.block k qd (λhS=>by have:=a k hS;omega)⟩
def zkB(fs gs xs ys)(h:xs.length=fs.length):A7 (fs++gs) (xs++ys)=A7 fs xs++A7 gs ys:=by
 unfold A7;rw[Zj h.y,Yr]
def Bk.eS{w w' base B v o u n m fs gs xs ys}(h:Bk w base v n fs xs)(t:∀g,Pk v xs g->g<B)(hu:Bk w B u m gs ys)(C:base<=B)(E:w'.ownsRow base 145 3 o (n+m) (A7 fs xs++A7 gs ys))(D:w.grownBy w' v.ownBlock)(hl:o.ownBlock=v.ownBlock∨o.ownBlock=some w.heap.size):Bk w' base o (n+m) (fs++gs) (xs++ys):=by
 have q:∀y∈xs,∀g,y.ownBlock=some g->g<w.heap.size/\v.ownBlock≠some g/\g<B:=λy b g O=>⟨(h.range (.inr ⟨y,b,O⟩)).2,λe=>h.apart y b g e O,t g (.inr ⟨y,b,O⟩)⟩
 have b:∀y∈ys,∀g,y.ownBlock=some g->g<w.heap.size/\v.ownBlock≠some g/\B<=g:=λy b g O=>by
  have x:=hu.range (.inr ⟨y,b,O⟩);exact⟨x.2,λe=>by have:=t g (.inl e);omega,x.1⟩
 have s:∀y:Value,y∈xs++ys->∀g,y.ownBlock=some g->g<w.heap.size/\v.ownBlock≠some g/\w'.heap[g]?=w.heap[g]?:=by
  intro y a g O;have:g<w.heap.size/\v.ownBlock≠some g:=by
   rcases yn.1 a with a|a
   .exact⟨(q y a g O).1,(q y a g O).2.1⟩
   exact⟨(b y a g O).1,(b y a g O).2.1⟩
  exact⟨this.1,this.2,D.block g this.1 (λe=>this.2 e.y)⟩
 refine⟨by simp[h.num,hu.num],by simp[h.len,hu.len],by rw[zkB fs gs xs ys h.len];exact E,?_,?_,?_⟩
 .intro i f y l d;by_cases hi:i<fs.length
  .rw[yr hi]at l;have r:=d;rw[yr T5]at d;obtain⟨k,j⟩:=h.P i f y l d;exact⟨k,Bv j (λg O=>(s y (yd r) g O).2.2)⟩
  rw[yx qd]at l;have r:=d;rw[yx (by rw[h.len];omega),h.len]at d;obtain⟨k,j⟩:=hu.P _ f y l d;exact⟨k,CA (Bv j (λg O=>(s y (yd r) g O).2.2)) C⟩
 .intro y a g p O;obtain⟨k,j,_⟩:=s y a g O;rcases hl with hl|hl
  .exact j (hl.y.c p)
  rw[hl]at p;cases p;omega
 rw[Y9];refine⟨h.bd,hu.bd,λy a z A g O G=>?_⟩;have k:=(q y a g O).2.2;have j:=(b z A g G).2.2;omega
def Bk.ab{w base n c a fs xs}(h:Bk w base (.slice a n c) n fs xs):∀b,a=some b->∀j u,(A7 fs xs)[j]?=some u->w.cell? (b.add j)=some u:=by
 intro b e j u hu;obtain⟨g,d,_,f,_⟩:=BM h.Q hu;rw[e]at d;cases d;rw[Wl,Yc];exact f
def Bk.ei{w base n c a fs xs}(h:Bk w base (.slice a n c) n fs xs):a=none->n=0:=by
 intro e;subst e;have:=h.num;cases fs with
 |nil=>simpa using this
 |cons f r=>
  have b:=Xt (f::r) xs h.len;have O:(A7 (f::r) xs)[0]?=some ((A7 (f::r) xs)[0]'(by rw[b];simp)):=yH _;obtain⟨g,d,_⟩:=BM h.Q O;cases d
def Bk.one{w base n v fs xs}(h:Bk w base v n fs xs):∀u∈A7 fs xs,u.oneCell'=true:=by
 intro u hu;unfold A7 at hu;obtain⟨p,j,hu⟩:=Yo.1 hu;obtain⟨i,g,d⟩:=Wc j;have O:(fs.zip xs)[i]?=some p:=by rw[yH g,d]
 obtain⟨f,b⟩:=WM.1 O;obtain⟨⟨a,c,e⟩,_⟩:=h.P i _ _ f b;rw[e]at hu;exact OL _ _ _ _ u hu
def Bz.take{w a fs}(h:Bz w a fs)(k):Bz w a (fs.take k):=λi f b=>by
 rw[YC]at b;split at b
 .exact h i f b
 cases b
def Bz.drop{w b o fs}(h:Bz w (some ⟨b,o,none⟩) fs)(k):Bz w (some ⟨b,o+k*3,none⟩) (fs.drop k):=λi f a=>by
 rw[WW]at a;obtain⟨O,o',d,j,c,g⟩:=h _ f a;cases d;have e:o+k*3+i*3=o+(k+i)*3:=qd;exact⟨b,o+k*3,rfl,by rw[e];exact j,by rw[e];exact c,by rw[e];exact g⟩
def nB(a c fs nx cp sg w)(hv:Bz w a fs)(hl:fs.length<=1048576)(n:∀f∈fs,f.s.length<=1048576) :
  Ca 217 #[.agg #[.slice a fs.length c,I6 nx,I6 cp,.bool sg]] w λe w'=>
   (∃i g xs,e=.returned (.agg #[.slice i fs.length g,I6 nx,I6 cp,.bool sg])/\Bk w' w.heap.size (.slice i fs.length g) fs.length fs xs)/\Bw w w':=by
 have q:w.heap.size<w.heap.size+1+1:=qd;go_enter func217,ntmps217;go_wp2_with (go_at_call 258;refine(nH a c fs _ (hv.d AX) hl n).j ?_;rintro e l ⟨⟨a1,b,xs,rfl,m⟩,O⟩;obtain⟨o,p⟩:=Aw O);refine bodyPost_ret (v:=.agg #[.slice a1 fs.length b,I6 nx,I6 cp,.bool sg]) (by simp[results,results217,go_sem,o]) rfl ⟨⟨a1,b,xs,rfl,?_⟩,?_⟩
 .exact(((((m.set qf _).set qe _).set qe _).set qe _).set qe _).lower qf
 have k:Bw w l:=AX.thn O;exact((((k.setCell qe _).setCell qe _).setCell qe _).setCell qe _).setCell qe _
def M9(a c fs nx cp sg code tag w)(hv:Bz w a fs)(hl:fs.length<=1048576)(l:∀f∈fs,f.s.length<=1048576) :
  Ca 216 #[.agg #[.slice a fs.length c,I6 nx,I6 cp,.bool sg],I6 code,I6 tag] w λe w'=>
   (∃i g xs,e=.returned (C6.val ⟨fs,nx,cp,sg,code,tag⟩ i g)/\Bk w' w.heap.size (.slice i fs.length g) fs.length fs xs)/\Bw w w':=by
 have o:w.heap.size<w.heap.size+1+1:=qd;go_enter func216,ntmps216;go_wp2_with (go_at_call 217;refine(nB a c fs nx cp sg _ (hv.d AX) hl l).j ?_;rintro e w1 ⟨⟨a1,b,xs,rfl,k⟩,O⟩;obtain⟨m,n⟩:=Aw O);refine bodyPost_ret (v:=C6.val ⟨fs,nx,cp,sg,code,tag⟩ a1 b) (by simp[results,results216,go_sem,m,C6.val]) rfl ⟨⟨a1,b,xs,rfl,?_⟩,?_⟩
 .exact((((((k.set qe _).set qe _).set qe _).set qe _).set qe _).set qe _).lower qf
 exact ZM
def su{B W a}(c:Below B W a):(∀b o,b<B->a.cell? ⟨b,o,none⟩=W.cell? ⟨b,o,none⟩)/\(∀b o,b<B->a.frozen? ⟨b,o,none⟩=W.frozen? ⟨b,o,none⟩):=
 ⟨λb o h=>c.cell (p:=⟨b,o,none⟩) h,λb o h=>c.frozen (p:=⟨b,o,none⟩) h⟩
def nL(n a c fs w)(g:fs.length=n)(hv:Bz w a fs)(hl:n<=1048576)(i:∀f∈fs,f.s.length<=1048576) :
  Ca 258 #[.slice a n c] w λe w'=>
   (∃b d xs,e=.returned (.slice b n d)/\Bk w' w.heap.size (.slice b n d) n fs xs)/\Bw w w':=by
 subst g;exact nH a c fs w hv hl i
def mH(a c fs nx cp sg i w)(hv:Bz w a fs)(hc:fs.length<=c)(hl:fs.length<=1048576)(U:∀f∈fs,f.s.length<=1048576)(M:i<fs.length) :
  Ca 219 #[.agg #[.slice a fs.length c,I6 nx,I6 cp,.bool sg],I6 i] w λe w'=>
   (∃D C xs,e=.returned (.agg #[.slice D (fs.eraseIdx i).length C,I6 nx,I6 cp,.bool sg])/\Bk w' w.heap.size (.slice D (fs.eraseIdx i).length C) (fs.eraseIdx i).length (fs.eraseIdx i) xs)/\Bw w w':=by
 have aR:w.heap.size<w.heap.size+1+1:=qd;obtain⟨f0,aB⟩:=Ba M;obtain⟨b,o,rfl,_⟩:=hv i f0 aB;have aK:=λo' aC=>(hv.d (LC o' aC)).take i;have aL:(fs.take i).length=i:=by simp;omega
 go_enter func219,ntmps219;go_wp2_with fail;refine(nL i _ c (fs.take i) _ aL (aK _ _) qd (λf l=>U f (YM l))).j ?_;rintro e m ⟨⟨a1,c1,H,rfl,K⟩,x⟩;obtain⟨aA,aN⟩:=Aw x;have R:Bw w m:=AX.thn x;have aH:=(hv.d R).drop (i+1);have t:=Aa K;clear K;have A:w.heap.size+1+1<=m.heap.size:=by have:=x.size;simpa using this
 have N:(fs.drop (i+1)).length=fs.length-(i+1):=qe;have aD:∀f∈fs.drop (i+1),f.s.length<=1048576:=λf l=>U f (List.mem_of_mem_drop l);have B:fs.take i++fs.drop (i+1)=fs.eraseIdx i:=(List.eraseIdx_eq_take_drop_succ fs i).y;have k:i+(fs.length-(i+1))=(fs.eraseIdx i).length:=by rw[KA,if_pos M];omega
 obtain⟨HE,J⟩:=Ah B k;clear B k;go_wp2_with fail
 all_goals
  refine(nL (fs.length-(i+1)) _ _ (fs.drop (i+1)) m N (by first|exact aH|(have:fs.drop (i+1)=[]:=yy qd;rw[this];intro i f l;simp at l)) qd aD).j ?_;rintro e q ⟨⟨a2,Y,L,rfl,I⟩,n⟩;obtain⟨aJ,aS⟩:=Aw n;have G:=t.o.d n;have u:Bw w q:=R.thn n;obtain⟨O,p⟩:=Ah I G;have aO:w.heap.size<m.heap.size:=qd;have aM:w.heap.size+1<m.heap.size:=qd;have Z:w.heap.size+1+1<=q.heap.size:=yh A n.size;have HR:=Aa (λg(hg:Pk (.slice a1 i c1) H g)=>(t.o.range hg).2);clear I G t;go_wp2_with (at_builtin;refine CN qi (.tmp 11) (.tmp 17) 25 qi (w.heap.size+1+1) 145 _ 3 48 underlying25 Of qi qd _ i _ qi (CA p.o.Q qe) a2 (fs.length-(i+1)) Y qi (A7 (fs.drop (i+1)) L) (by rw[Xt _ _ O.o.len,N]) O.o.ei O.o.ab O.o.one qj qd qd ?_;intro E T z aE W aI;have r:Below (w.heap.size+1+1) q z:=An.grown W.o Z (λj hj=>by have:=(p.o.Q.lt j hj).1;simpa using this);obtain⟨aF,aQ⟩:=su r);have hS:=(p.o.lower (base':=w.heap.size+1+1) qe).eS HR.o O.o A aE.o W.o aI.o;rw[HE.o,J.o]at hS;have aP:w.heap.size<z.heap.size:=by have:=r.size;omega
  refine bodyPost_ret (v:=.agg #[.slice E (fs.eraseIdx i).length T,I6 nx,I6 cp,.bool sg]) (by simp[results,results219,go_sem,aA,aJ,aF,aM,J.o]) rfl ⟨⟨E,T,H++L,rfl,?_⟩,?_⟩
  .exact(((((hS.set qf _).set qe _).set qe _).set qe _).set qe _).lower qd
  have hB:Bw w z:=u.c (r.j qd);exact((((hB.setCell qe _).setCell qe _).setCell qe _).setCell qe _).setCell qe _
end
section
open Go.Maps
attribute [local go_sem ↓] wp_at_zero wp_at_succ
def Nj{w:World}{b r t}(h:w.heap[b]?=some (.cells r t (0,0)))(g:r.size=6):∃x0 x1 e f d O,At w b 0 x0/\At w b 1 x1/\At w b 2 e/\At w b 3 f/\At w b 4 d/\At w b 5 O /\
  w.frozen? ⟨b,0,none⟩=false/\w.frozen? ⟨b,1,none⟩=false/\w.frozen? ⟨b,2,none⟩=false/\w.frozen? ⟨b,3,none⟩=false/\w.frozen? ⟨b,4,none⟩=false/\w.frozen? ⟨b,5,none⟩=false:=by
 have c:∀j(hj:j<6),At w b j (r[j]'(by omega)):=λj hj=>by simp[World.cell?,h,show j<r.size by omega]
 have a:∀j,w.frozen? ⟨b,j,none⟩=false:=λj=>by simp[World.frozen?,h]
 exact⟨_,_,_,_,_,_,c 0 qd,c 1 qd,c 2 qd,c 3 qd,c 4 qd,c 5 qd,a _,a _,a _,a _,a _,a _⟩
def zaN{w:World}{b o x}(h:w.cell? ⟨b,o,none⟩=some x){q}(c:b≠q.block)(u):(w.setCell q u).cell? ⟨b,o,none⟩=some x:=by
 rw[<-h];exact yR (a:=⟨b,o,none⟩) (yE _ _ _ _ c)
def zcN{w:World}{p x}(h:w.cell? p=some x):w.drew.cell? p=some x:=h
def C6.cells(r:C6)(a:Option Addr)(c:Nat):List Value:=[.slice a r.fs.length c,.int .i64 r.nx,.int .i64 r.cp,.bool r.sg,.int .i64 r.am,.int .i64 r.tag]
def C6.one(r:C6)(a c):∀v∈r.cells a c,v.oneCell'=true:=by
 intro v hv;simp only[C6.cells,yG,YF,or_false]at hv;rcases hv with rfl|rfl|rfl|rfl|rfl|rfl<;>rfl
def GS:(prog.info? 87).map (·.size)=some 6:=qg
def C6.load{w b}{r:C6}{a c d}(h:w.heap[b]?=some (.cells (r.cells a c).toArray 87 d)):(loadVar 87 ⟨b,0,none⟩).run prog w=.ok (r.val a c) w:=
 run_loadVar_mid (P:=prog) w b 0 87 (r.cells a c) _ (JS h) underlying87 rfl GS
def pU(h:P:=by exact(((((hB.setCell (by simp;omega) _).setCell (by simp;omega) _).setCell (by simp;omega) _).setCell (by simp;omega) _).setCell (by simp;omega) _).setCell (by simp;omega) _):=h
def zlO(a c fs nx cp sg W tag sa n sc w)(hv:Bz w a fs)(hc:fs.length<=c)(hl:fs.length<=1048576)(E:∀f∈fs,AJ f)(A:∀f∈fs,Db f)(hw:(Lit.int .i64 tag).wf=true) :
  Ca 158 #[.agg #[.slice a fs.length c,.int .i64 nx,.int .i64 cp,.bool sg],.agg #[.string W,.int .i64 tag,.slice sa n sc]] w λe w'=>
   (∃a' Z xs,e=.returned ((CV fs nx cp sg tag).val a' Z)/\Bk w' w.heap.size (.slice a' (CV fs nx cp sg tag).fs.length Z) (CV fs nx cp sg tag).fs.length (CV fs nx cp sg tag).fs xs)/\Bw w w':=by
 have y:∀f∈fs,f.s.length<=1048576:=λf hf=>(E f hf).2.1;cases C:B_ fs nx cp sg
 .rw[jS C];go_enter func158,ntmps158;go_wp2_with (go_at_call 213;refine(JU a c fs nx cp sg _ (hv.d Bj) hl E A).rtn λb l=>?_;obtain⟨O,B⟩:=Aw l);refine bodyPost_ret (v:=C6.ad.val none 0) (by simp[results,results158,go_sem,O,C6.val,C6.ad]) rfl ⟨⟨none,0,[],rfl,Bk.nil _ _⟩,?_⟩;have hB:Bw w b:=Bj.thn l;exact pU
 have aC:=Qr C;cases z:AD tag fs with
 |none=>
  rw[Tc C z];go_enter func158,ntmps158;go_wp2_with (go_at_call 213;refine(JU a c fs nx cp sg _ (hv.d Bj) hl E A).rtn λb l=>?_;obtain⟨O,B⟩:=Aw l);have q:Bw w b:=Bj.thn l;have M:w.heap.size+1+1+1<=b.heap.size:=by have:=l.size;simpa using this
  have q0:b.cell? ⟨w.heap.size,0,none⟩=some (.slice a fs.length c):=by rw[O _ _ qf];simp[go_sem]
  have q1:b.cell? ⟨w.heap.size,1,none⟩=some (.int .i64 nx):=by rw[O _ _ qf];simp[go_sem]
  have q2:b.cell? ⟨w.heap.size,2,none⟩=some (.int .i64 cp):=by rw[O _ _ qf];simp[go_sem]
  have q3:b.cell? ⟨w.heap.size,3,none⟩=some (.bool sg):=by rw[O _ _ qf];simp[go_sem]
  have q4:b.cell? ⟨w.heap.size+1,1,none⟩=some (.int .i64 tag):=by rw[O _ _ qe];simp[go_sem]
  have U:∃r:Array Value,b.heap[w.heap.size+1+1]?=some (.cells r 87 (0,0))/\r.size=6:=⟨_,(l.block _ qe).c (EA _ _ _ qe),rfl⟩
  clear O B l;have J:=hv.d q
  go_region_held3 (λw'=>w'.cell? ⟨w.heap.size,0,none⟩=some (.slice a fs.length c)/\w'.cell? ⟨w.heap.size,1,none⟩=some (.int .i64 nx)/\w'.cell? ⟨w.heap.size,2,none⟩=some (.int .i64 cp)/\w'.cell? ⟨w.heap.size,3,none⟩=some (.bool sg)/\w'.cell? ⟨w.heap.size+1,1,none⟩=some (.int .i64 tag))
   ((go_split_ands;refine⟨?_,?_,?_,?_,?_⟩<;>first|assumption|exact zab p qk))
   (first|(go_at_call 96;refine(Tg a c fs nx cp sg _ (J.d ?_) hl aC A).j ?_;exact An.drew;rintro e m ⟨I,D,rfl,N,H,p⟩;have L:(Instr.lookup 172 (.map (some I)) (.int .i64 tag) true).run prog m=.ok (.tuple #[.int .i64 0,.bool false]) m:=(by have:=SJ N H hw;rw[z]at this;exact this)))
  clear L;have k:Bw w m:=q.drew.c (p.j q.size);have R:=hv.d k;have aF:w.heap.size+1+1+1<=m.heap.size:=yh M p.size;obtain⟨r0,K,T⟩:=U;go_wp2_with (first|(go_at_call 216;refine(M9 a c fs nx cp sg 5 0 m R hl y).j ?_;rintro e w3 ⟨⟨u,x,Y,rfl,G⟩,t⟩)|(refine C7 qi 87 (.tmp 4) (.tmp 22) qi (w.heap.size+1+1) (C6.cells ⟨fs,nx,cp,sg,5,0⟩ u x) qi qi r0 87 ((t.block _ qd).c ((p.block _ (by show _<b.heap.size;omega)).c K)) T GS (C6.one _ _ _) ?_;intro w4 aE aD))
  go_frame
  refine bodyPost_ret (v:=C6.val ⟨fs,nx,cp,sg,5,0⟩ u x) (by simp[results,results158,asAddr,C6.load aE.o]) rfl ⟨⟨u,x,Y,rfl,?_⟩,?_⟩
  .exact(G.kept (λg hg=>aD.o.block g (by have:=(G.range hg).1;omega))).lower k.size
  .exact(k.thn t).c (aD.o.d qd)
 |some i=>
  rw[S8 C z];have aG:=Ot z;go_enter func158,ntmps158;go_wp2_with (go_at_call 213;refine(JU a c fs nx cp sg _ (hv.d Bj) hl E A).rtn λb l=>?_;obtain⟨O,B⟩:=Aw l);have q:Bw w b:=Bj.thn l;have M:w.heap.size+1+1+1<=b.heap.size:=by have:=l.size;simpa using this
  have q0:b.cell? ⟨w.heap.size,0,none⟩=some (.slice a fs.length c):=by rw[O _ _ qf];simp[go_sem]
  have q1:b.cell? ⟨w.heap.size,1,none⟩=some (.int .i64 nx):=by rw[O _ _ qf];simp[go_sem]
  have q2:b.cell? ⟨w.heap.size,2,none⟩=some (.int .i64 cp):=by rw[O _ _ qf];simp[go_sem]
  have q3:b.cell? ⟨w.heap.size,3,none⟩=some (.bool sg):=by rw[O _ _ qf];simp[go_sem]
  have q4:b.cell? ⟨w.heap.size+1,1,none⟩=some (.int .i64 tag):=by rw[O _ _ qe];simp[go_sem]
  have U:∃r:Array Value,b.heap[w.heap.size+1+1]?=some (.cells r 87 (0,0))/\r.size=6:=⟨_,(l.block _ qe).c (EA _ _ _ qe),rfl⟩
  clear O B l;have J:=hv.d q
  go_region_held3 (λw'=>w'.cell? ⟨w.heap.size,0,none⟩=some (.slice a fs.length c)/\w'.cell? ⟨w.heap.size,1,none⟩=some (.int .i64 nx)/\w'.cell? ⟨w.heap.size,2,none⟩=some (.int .i64 cp)/\w'.cell? ⟨w.heap.size,3,none⟩=some (.bool sg)/\w'.cell? ⟨w.heap.size+1,1,none⟩=some (.int .i64 tag))
   ((go_split_ands;refine⟨?_,?_,?_,?_,?_⟩<;>first|assumption|exact zab p qk))
   (first|(go_at_call 96;refine(Tg a c fs nx cp sg _ (J.d ?_) hl aC A).j ?_;exact An.drew;rintro e m ⟨I,D,rfl,N,H,p⟩;have L:(Instr.lookup 172 (.map (some I)) (.int .i64 tag) true).run prog m=.ok (.tuple #[.int .i64 i,.bool true]) m:=(by have:=SJ N H hw;rw[z]at this;exact this)))
  clear L;have k:Bw w m:=q.drew.c (p.j q.size);have R:=hv.d k;have aF:w.heap.size+1+1+1<=m.heap.size:=yh M p.size;obtain⟨r0,K,T⟩:=U;go_split_ands;go_wp2_with fail
  go_region_held3 (λw'=>w'.cell? ⟨w.heap.size,0,none⟩=some (.slice a fs.length c)/\w'.cell? ⟨w.heap.size,1,none⟩=some (.int .i64 nx)/\w'.cell? ⟨w.heap.size,2,none⟩=some (.int .i64 cp)/\w'.cell? ⟨w.heap.size,3,none⟩=some (.bool sg)/\w'.cell? ⟨w.heap.size+1,1,none⟩=some (.int .i64 tag))
   ((go_split_ands;refine⟨?_,?_,?_,?_,?_⟩<;>first|((with_reducible refine zaN (zaN (zaN (zaN (zaN (zaN ?_ ?_ _) ?_ _) ?_ _) ?_ _) ?_ _) ?_ _)<;>first|with_reducible assumption|(dsimp only;omega))|with_reducible exact zab t qk|with_reducible exact zcN qk))
   ((go_at_call 219;refine(mH a c fs nx cp sg i _ (R.d ?_) hc hl y aG).j ?_;exact An.drew;rintro e w3 ⟨⟨u,x,Y,rfl,G⟩,t⟩;obtain⟨x0,x1,x2,x3,x4,x5,y0,y1,y2,y3,y4,y5,z0,z1,z2,z3,z4,z5⟩:=Nj ((t.block (w.heap.size+1+1) (by show _<m.heap.size;omega)).c ((p.block _ (by show _<b.heap.size;omega)).c K)) T))
  go_wp2;refine bodyPost_ret (v:=C6.val ⟨fs.eraseIdx i,nx,cp,sg,0,tag⟩ u x) (by simp[results,results158,go_sem,C6.val, *]) rfl ⟨⟨u,x,Y,rfl,?_⟩,?_⟩
  .exact((((((G.set qf _).set qf _).set qf _).set qf _).set qf _).set qf _).lower k.size
  exact((((((k.drew.c (t.j k.size)).setCell qf _).setCell qf _).setCell qf _).setCell qf _).setCell qf _).setCell qf _
def Uq:List Value:=[.nilFunc,.func (.func 157) #[] #[],.func (.func 158) #[] #[],.func (.func 159) #[] #[]]
def rx:(prog.info? 265).map (·.size)=some 4:=qg
def uK:∀v∈Uq,v.oneCell'=true:=by
 intro v hv;simp only[Uq,yG,YF,or_false]at hv;exact Zv
def XU(k:Nat)(v)(j:k<4)(hv:Uq[k]?=some v)(w):Ca 95 #[I6 k] w λe w'=>e=.returned v/\Bw w w':=by
 have i:(0:Int)<=(k:Int):=qd;have g:(k:Int)<4:=qd;go_enter func95,ntmps95;go_wp2_with (first|(refine C7 qi 265 (.tmp 3) (.tmp 4) qi w.heap.size Uq qi qi _ 265 (EA _ _ _ rfl) qi rx uK ?_;intro f b a;have O:=JS b.o k v hv;rw[Yc]at O)|fail);go_ret;exact⟨rfl,Aj.c (a.o.d AH)⟩
end
section
attribute [local go_sem ↓] wp_at_zero wp_at_succ
def Bk.eE{w m:World}{base n:Nat}{v x:Value}{A B:List F}{f j:F}{X Y:List Value}(h:Bk w base v n (A++f::B) (X++x::Y))(r:X.length=A.length)(k:j.s.length=f.s.length)
  (hv:m.ownsRow base 145 3 v n (A7 (A++j::B) (X++x::Y))) (H:m.ownsRow base 187 3 x j.s.length (j.s.flatMap V.cells)) (G:Mk (λg=>v.ownBlock=some g∨x.ownBlock=some g) w m):Bk m base v n (A++j::B) (X++x::Y):=by
 have D:=Y9.1 h.bd;have O:∀y:Value,y∈X∨y∈Y->∀g,y.ownBlock=some g->m.heap[g]?=w.heap[g]?:=by
  intro y b g o;have C:y∈X++x::Y:=by rcases b with b|b<;>simp[b]
  refine G.block g (h.range (.inr ⟨y,C,o⟩)).2 ?_;rintro(e|e)
  .exact h.apart y C g e o
  rcases b with b|b
  .exact D.2.2 y b x qe g o e
  exact(WZ.1 D.2.1).1 y b g e o
 refine⟨by rw[h.num];simp,by rw[h.len];simp,hv,?_,h.apart,h.bd⟩;intro i q y d b;rcases Nat.lt_trichotomy i A.length with l|l|l
 .rw[yr l]at d;rw[yr qd]at b;obtain⟨t,p⟩:=h.P i q y (by rw[yr l];exact d) (by rw[yr qd];exact b);exact⟨t,Bv p (O y (.inl (yd b)))⟩
 .subst l;rw[yx (yu _)]at d;rw[yx qd,r]at b;simp at d b;subst d;subst b;obtain⟨⟨a,c,e⟩,_⟩:=h.P A.length f x qe (by rw[yx qd,r];simp);exact⟨⟨a,c,by rw[e,k]⟩,H⟩
 have E:∀u:F,(A++u::B)[i]?=B[i-A.length-1]?:=λu=>by
  rw[yx qd,List.getElem?_cons,if_neg qd]
 have z:(X++x::Y)[i]?=Y[i-A.length-1]?:=by
  rw[yx qd,List.getElem?_cons,if_neg qd,r]
 rw[E]at d;rw[z]at b;obtain⟨t,p⟩:=h.P i q y (by rw[E];exact d) (by rw[z];exact b);exact⟨t,Bv p (O y (.inr (yd b)))⟩
end
section
open Go.Maps
attribute [local go_sem ↓] wp_at_zero wp_at_succ
def Dk(but:Int)(cls:ByteArray)(vs:List V)(f:F):Bool:=decide (f.tag≠but)&&(decide (f.z=cls)&&decide (f.s=vs))
def Hb(but:Int)(cls:ByteArray)(vs:List V):List F->Int
 |[]=>0
 |f::r=>if Dk but cls vs f then f.tag else Hb but cls vs r
def EK(sg:Bool)(but:Int)(cls:ByteArray)(vs:List V)(fs:List F):Int:=if sg then Hb but cls vs fs else 0
def XV{but a vs}:∀{fs:List F}{last:Int},0<=last->BN last fs=true->Hb but a vs fs=0∨0<Hb but a vs fs
 |[],_,_,_=>.inl rfl
 |f::r,last,hl,h=>by
  simp only[BN,Hi,yi,decide_eq_true_eq]at h
  unfold Hb
  split
  .exact .inr (by omega)
  exact XV (last:=f.tag) (by omega) h.2
def pL(h:P:=by
 have HT:=Aa (show EK true but cls vs (fs.drop k)=EK true but cls vs (fs.drop (k+1)) by rw[HD.o];show(if Dk but cls vs f then f.tag else _)=_;rw[O];rfl);go_wp2;go_roundw
 case rel=>exact⟨k+1,by omega,by go_num,by rw[HG.o,HT.o],hb.alloc af _⟩
 case measure=>(simp;omega)
 ):=h
def lV(a c fs nx cp sg but cls sa t vs w)(hv:Bz w a fs)(A:Bt w sa vs)(hl:fs.length<=1048576)(C:∀f∈fs,f.s.length<=1048576) :
  Ca 119 #[.agg #[.slice a fs.length c,.int .i64 nx,.int .i64 cp,.bool sg],.int .i64 but,.string cls,.slice sa vs.length t] w λe w'=>
   e=.returned (.int .i64 (EK sg but cls vs fs))/\Bw w w':=by
 go_enter func119,ntmps119;go_wp2
 go_loopw [14] (λi wr=>∃(k:Nat),k<=fs.length/\i=.int .i64 k/\EK sg but cls vs fs=EK sg but cls vs (fs.drop k)/\Below (w.heap.size+1) (w.alloc (.cells #[.slice a fs.length c,.int .i64 nx,.int .i64 cp,.bool sg] 27)) wr) (mz fs.length)
 case atStart=>exact⟨0,qd,rfl,rfl,An⟩
 case round=>
  obtain⟨k,J,rfl,x,hb⟩:=hrel;have HG:=Aa x;clear x;have g:=hb;rw[<-Wy w (.cells #[.slice a fs.length c,.int .i64 nx,.int .i64 cp,.bool sg] 27)]at g;have q:Bw w wr:=Aj.thn g;by_cases B:k<fs.length
  .obtain⟨f,r⟩:=Ba B;obtain⟨b,o,rfl,K,H,s,cs,G,m⟩:=hv.d q k f r;have HD:=Aa (CF r);have y:=C f (yd r);have M:At wr w.heap.size 3 (.bool sg):=zab g ql;have af:w.heap.size+1<=wr.heap.size:=by have:=g.size;simpa using this
   have u:=A.d q;have L:w.heap.size<wr.heap.size:=qd;cases sg
   .go_wp2;go_roundw
    case rel=>exact⟨k+1,qd,qm,by rw[HG.o];rfl,hb.alloc af _⟩
    case measure=>(simp;omega)
   cases n:(f.tag != but)
   .have O:Dk but cls vs f=false:=by unfold Dk;simp at n;simp[n]
    exact pL
   cases l:(f.z.toList==cls.toList)
   .have O:Dk but cls vs f=false:=by rw[EZ]at l;unfold Dk;rw[l];simp
    exact pL
   have O:Dk but cls vs f=decide (f.s=vs):=by rw[EZ]at l;unfold Dk;rw[l];simp at n;simp[n]
   have HT:=Aa (show EK true but cls vs (fs.drop k)=if decide (f.s=vs) then f.tag else EK true but cls vs (fs.drop (k+1)) by rw[HD.o];show(if Dk but cls vs f then f.tag else _)=_;rw[O];rfl);cases v:decide (f.s=vs)
   .go_wp2_with (go_at_call 175;refine(Tw s sa cs t f.s vs _ (m.d Aj) (u.d Aj) y).rtn λD p=>?_);go_roundw
    case rel=>exact⟨k+1,qd,qm,by rw[HG.o,HT.o,v];rfl,(hb.alloc af _).c (p.j qf)⟩
    case measure=>(simp;omega)
   go_wp2_with (go_at_call 175;refine(Tw s sa cs t f.s vs _ (m.d Aj) (u.d Aj) y).rtn λD p=>?_;obtain⟨I,E⟩:=Aw p);go_ret;exact⟨EB (by rw[HG.o,HT.o,v];rfl),(q.alloc qd _).c (p.j qf)⟩
  go_wp2;go_ret;exact⟨EB (by rw[HG.o,yy qd];cases sg<;>rfl),q⟩
end
section
attribute [local go_sem ↓] wp_at_zero wp_at_succ
def JX(a:Option Addr)(n c:Nat)(nx cp:Int)(sg:Bool):List Value:=[.slice a n c,.int .i64 nx,.int .i64 cp,.bool sg]
def io(a n c nx cp sg):∀v∈JX a n c nx cp sg,v.oneCell'=true:=by
 intro v hv;simp only[JX,yG,YF,or_false]at hv;exact Zv
def UI:(prog.info? 27).map (·.size)=some 4:=qg
def Du{w w'}{b:Nat}{o}(h:w.heap[b]?=some o)(a:Bw w w'):w'.heap[b]?=some o:=(a.block b (Ak h)).c h
def zoN{w w' b O o}(h:w.heap[b]?=some o)(d:Turned w w' O)(a:b≠O):w'.heap[b]?=some o:=(d.block b a).c h
def Sn{w w':World}{o o'}{b:Nat}(h:w.heap[b]?=some o)(a:Turned (w.alloc o') w' w.heap.size):w'.heap[b]?=some o:=by
 have hl:=Ak h;exact zoN ((yS _ _ _ hl).c h) a qd
def DM{w w' o'}(a:Turned (w.alloc o') w' w.heap.size):Bw w w':=
 Aj.c (a.d AH)
def Vt{w w':World}{o'}(a:Turned (w.alloc o') w' w.heap.size):w'.heap.size=w.heap.size+1:=by rw[a.size];simp
def IL{w:World}{b a n c nx cp sg t e}(h:w.heap[b]?=some (.cells (JX a n c nx cp sg).toArray t e)):At w b 0 (.slice a n c)/\At w b 1 (I6 nx)/\At w b 2 (I6 cp)/\At w b 3 (.bool sg):=by
 have d:=JS h;exact⟨d 0 _ rfl,d 1 _ rfl,d 2 _ rfl,d 3 _ rfl⟩
def wt(l:List F):Nat:=2*l.length+3*(l.map λf=>f.s.length).sum
end
section
open Go.Maps
attribute [local go_sem ↓] wp_at_zero wp_at_succ
def uQ{f g}(c:Gf f)(b:Gf g)(w):(binOp .eql 382 (.agg (Ei f).toArray) (.agg (Ei g).toArray)).run prog w=.ok (.bool (decide (f.z=g.z)&&decide (f.s=g.s))) w:=by
 obtain⟨j,K⟩:=KL.bD;obtain⟨r,i,O⟩:=run_equal_deep (P:=prog) w (m:=5) qd (k:=382) qg f_ (K f c) (K g b);rw[run_eql_struct];have e:(Op.equalIn 10000 382 (.agg (Ei f).toArray) (.agg (Ei g).toArray)).run prog w=.ok r w:=i;rw[e];show Result.ok (Value.bool r) w=_;rw[VB K c b,PJ]at O;have:r=(decide (f.z=g.z)&&decide (f.s=g.s)):=by
  cases r
  .have a:¬(f.z=g.z/\f.s=g.s):=λh=>by cases O.2 h
   symm
   simpa[WC] using a
  obtain⟨d,a⟩:=O.1 rfl;simp[d,a]
 rw[this]
def uD{f}(hl:f.s.length<=6):(Ei f).length=20:=by unfold Ei;rw[Qc,PA _ hl]
def ER(w:World)(b:Nat):List Value:=match w.heap[b]? with|some (.cells c _ _)=>c.toList|_=>[]
def LX:Value->Nat
 |.pointer (some p)=>p.block
 |_=>0
def uw{w b L t a}(h:w.heap[b]?=some (.cells L.toArray t a)):ER w b=L:=by simp[ER,h]
def zoM{w w' b L}(h:ER w b=L)(a:Bw w w')(O:b<w.heap.size):ER w' b=L:=by
 unfold ER at h⊢;rw[a.block b O];exact h
def vy(ρ:Operand->Value)(e:Option Tmp)(x:Operand)(ty:TypeId)(pos:String)(O:Array Edge)(d:Option (Nat × Bool))(w:World)(f:ρ x=.pointer (some ⟨LX (ρ x),0,none⟩))(hl:(ER w (LX (ρ x))).length=20) :
  (execOp ρ ⟨e,.load 382 x,ty,pos,O,d⟩).run prog w=.ok (.value (.agg (ER w (LX (ρ x))).toArray)) w:=by
 have a:w.rangeAt (LX (ρ x)) 0 (ER w (LX (ρ x))):=by
  intro j v hv;unfold ER at hv;split at hv
  .rename_i c t g b;simp[World.cell?,b];simpa using hv
  simp at hv
 have:=run_loadAt_mid (P:=prog) w (LX (ρ x)) 0 382 (ER w (LX (ρ x))) _ a underlying382 rfl (by rw[hl];exact US);rw[<-f]at this;simp only[execOp,TJ,this,Ke,Sem.run_pure]
attribute [local go_sem ↓] vy
attribute [local go_sem] LX
def fN(h:P:=by
 go_wp2
 go_region_held3 (λw'=>At w' wr.heap.size 0 (I6 f.tag)/\At w' wr.heap.size 1 (.string f.z)/\At w' wr.heap.size 2 (.slice s f.s.length cs)/\ER w' w1.heap.size=Ei g)
  ((go_split_ands;refine⟨?_,?_,?_,?_⟩<;>first|with_reducible exact zab O (by assumption)|(with_reducible refine zoM (by assumption) O ?_;simp;omega)|exact hH2 _|(simp[go_sem];done)))
  ((go_at_call 257;refine(U7 f s cs _ (hsl.d ?_) hkf.2.1).j ?_;exact Aj.drew;rintro e w3 ⟨rfl,O⟩))
 have af:Bw w2 w3:=(hb.alloc hb.size _).drew.c (O.j (by have:=hb.size;simp;omega));go_wp2
 first
  | (have _:=tP4
     go_roundw
     case rel=>exact⟨k+1,by omega,by go_num,by rw[HG.o,HT.o];rfl,af⟩
     case measure=>(simp;omega))
  | (go_ret
     exact⟨EB (by show f.tag=Hb but g.z g.s fs;rw[HG.o,HT.o];rfl),hB2.thn af⟩)
 ):=h
def j_(a c fs nx cp sg g sa u but w)(hv:Bz w a fs)(H:Bt w sa g.s)(hl:fs.length<=1048576)(J:∀f∈fs,Gf f)(m:Gf g) :
  Ca 215 #[.agg #[.slice a fs.length c,I6 nx,I6 cp,.bool sg],.agg #[I6 g.tag,.string g.z,.slice sa g.s.length u],I6 but] w λe w'=>
   e=.returned (I6 (EK sg but g.z g.s fs))/\Bw w w':=by
 cases sg
 .go_enter func215,ntmps215;go_wp2;go_ret;exact⟨rfl,AX⟩
 have HL:=Aa (uD m.2.1);go_enter func215,ntmps215;go_wp2_with (first|(go_at_call 257;refine(U7 g sa u _ (H.d AX) m.2.1).rtn λw1 l=>?_;obtain⟨L,G⟩:=Aw l)|(refine C7 qi 382 (.tmp 7) (.tmp 14) qi w1.heap.size (Ei g) qi qi _ 382 (EA _ _ _ rfl) (by rw[HL.o];rfl) T8 (Xp _ _ _) ?_;intro w2 p af;have C:At w2 w.heap.size 0 (.slice a fs.length c):=zab (DM af.o) (zab l ql))|fail);have t:Bw w w1:=AX.thn l;have hB2:Bw w w2:=t.c ((DM af.o).j t.size);have D:=hv.d hB2;have R:=Vt af.o;have A:=Aa p.o;clear L G l af C p
 go_loopw [18] (λi wr=>∃(k:Nat),k<=fs.length/\i=I6 k/\Hb but g.z g.s fs=Hb but g.z g.s (fs.drop k)/\Bw w2 wr) (mz fs.length)
 case atStart=>exact⟨0,qd,rfl,rfl,An⟩
 case round=>
  obtain⟨k,W,rfl,x,hb⟩:=hrel;have HG:=Aa x;clear x;by_cases K:k<fs.length
  .obtain⟨f,n⟩:=Ba K;obtain⟨b,o,rfl,U,T,s,cs,M,hsl⟩:=D.d hb k f n;have v:=Aa (CF n);have hkf:=J f (yd n);have I:w1.heap.size<wr.heap.size:=by have:=hb.size;omega
   have hH2:∀o,ER (wr.alloc o).drew w1.heap.size=Ei g:=λo=>uw (w:=wr.alloc o) ((yS _ _ _ I).c (Du A.o hb));have E:(Ei g).length=20:=HL.o;have q:=λw'=>uQ hkf m w';by_cases ht:f.tag=but
   .have O:Dk but g.z g.s f=false:=by unfold Dk;simp[ht]
    have HT:=Aa (show Hb but g.z g.s (fs.drop k)=Hb but g.z g.s (fs.drop (k+1)) by rw[v.o];show(if Dk but g.z g.s f then f.tag else _)=_;rw[O];rfl);clear q E O;subst ht;go_wp2
    go_quiet (fail)
    have y:Bw w2 ((wr.alloc (.cells #[I6 f.tag,.string f.z,.slice s f.s.length cs] 145)).drewN nq):=Fk (hb.alloc hb.size _);go_wp2;go_roundw
    case rel=>exact⟨k+1,qd,qm,by rw[HG.o,HT.o],y⟩
    case measure=>(simp;omega)
   have O:Dk but g.z g.s f=(decide (f.z=g.z)&&decide (f.s=g.s)):=by unfold Dk;simp[ht]
   have B:(f.tag != but)=true:=Mq;have HT:=Aa (show Hb but g.z g.s (fs.drop k)=if(decide (f.z=g.z)&&decide (f.s=g.s)) then f.tag else Hb but g.z g.s (fs.drop (k+1)) by rw[v.o];show(if Dk but g.z g.s f then f.tag else _)=_;rw[O]);clear O;generalize N:(decide (f.z=g.z)&&decide (f.s=g.s))=r at q HT;cases r
   .have tP4:=trivial;exact fN
   exact fN
  go_wp2;go_ret;exact⟨EB (by show 0=Hb but g.z g.s fs;rw[HG.o,yy qd];rfl),hB2.thn hb⟩
end
section
attribute [local go_sem ↓] wp_at_zero wp_at_succ
structure GL(Z:Nat->Prop) (w:World) (base:Nat) (v:Value) (n:Nat) (fs:List F) (xs:List Value):Prop where
 num:n=fs.length
 len:xs.length=fs.length
 Q:w.ownsRow base 145 3 v n (A7 fs xs)
 P:∀(i:Nat)(f:F)(x:Value),fs[i]?=some f->xs[i]?=some x->∃a c,x=.slice a f.s.length c/\Fv Z w a f.s
 apart:∀b,Z b->v.ownBlock≠some b
def Bk.dF{w base v n fs xs}(h:Bk w base v n fs xs):GL (λb=>base<=b/\b<w.heap.size/\v.ownBlock≠some b) w base v n fs xs:=by
 refine⟨h.num,h.len,h.Q,λi f x m d=>?_,λb l=>l.2.2⟩;obtain⟨⟨a,c,e⟩,k⟩:=h.P i f x m d;have O:=h.apart x (yd d);subst e;refine⟨a,c,rfl,λj u hu=>?_⟩;obtain⟨b,o,rfl,g,p⟩:=Bt.owns k j u hu;exact⟨b,o,⟨(k.lt b rfl).1,yO w ⟨b,_,none⟩ g,λe=>O b e rfl⟩,rfl,g,p⟩
def LI.dF{Z w0 w v n fs xs}(h:LI Z w0 w v n fs xs)(m:Bw w0 w):GL (λb=>Z b/\b<w0.heap.size) w w0.heap.size v n fs xs:=by
 refine⟨h.num,h.len,h.Q,λi f x r q=>?_,λb g e=>by have:=(h.Q.lt b e).1;omega⟩;obtain⟨a,c,rfl,g⟩:=h.P i f x r q;refine⟨a,c,rfl,λj u hu=>?_⟩;obtain⟨b,o,p,rfl,k,l,s⟩:=g j u hu;have O:b<w0.heap.size:=yO w0 ⟨b,_,none⟩ k;have d:=m.block b O;exact⟨b,o,⟨p,O⟩,rfl,Li d k,Li d l,Li d s⟩
def GL.d{Z w w' base v n fs xs}(h:GL Z w base v n fs xs)(j:Bw w w'):GL Z w' base v n fs xs:=
 ⟨h.num,h.len,Bv h.Q (λg l=>j.block g (h.Q.lt g l).2),λi f x m k=>by
  obtain⟨a,c,e,hv⟩:=h.P i f x m k
  exact⟨a,c,e,hv.kept (λb _ O=>j.block b O)⟩,h.apart⟩
def GL.j{Z Z' w base v n fs xs}(h:GL Z w base v n fs xs)(d:∀b,Z b->Z' b)(O:∀b,Z' b->v.ownBlock≠some b):GL Z' w base v n fs xs:=
 ⟨h.num,h.len,h.Q,λi f x k g=>by
  obtain⟨a,c,e,hv⟩:=h.P i f x k g
  exact⟨a,c,e,hv.j d⟩,O⟩
def GL.on{Z w base a n c fs xs}(h:GL Z w base (.slice a n c) n fs xs):DT (λb=>Z b∨(Value.slice a n c).ownBlock=some b) w a fs:=by
 intro i f d;have m:i<fs.length:=(ye.1 d).1;have k:xs[i]?=some (xs[i]'(by rw[h.len];exact m)):=yH _;obtain⟨p,o,e,r⟩:=h.P i f _ d k;have key:=λj(hj:j<3)=>Oy fs xs h.len i f _ d k j hj;obtain⟨g,rfl,_,h0,_⟩:=BM h.Q ((key 0 qd).c rfl);obtain⟨s,q,_,h1,_⟩:=BM h.Q ((key 1 qd).c rfl);obtain⟨t,O,_,h2,_⟩:=BM h.Q ((key 2 qd).c rfl);cases q;cases O;rw[e]at h2;exact⟨g,0,.inr rfl,rfl,qD,qw,p,o,qu,r.j (λb l=>.inl l)⟩
def GL.snoc{Z w w' base v k n fs xs f x}(h:GL Z w base v n fs xs)(q:∀b,Z b->b<w.heap.size)(m:∃a c,x=.slice a f.s.length c/\Fv Z w a f.s)(ho:w'.ownsRow base 145 3 k (n+1) (A7 fs xs++A4 f x))(p:w.grownBy w' v.ownBlock)(hl:k.ownBlock=v.ownBlock∨k.ownBlock=some w.heap.size):GL Z w' base k (n+1) (fs++[f]) (xs++[x]):=by
 have O:∀(a:Option Addr)(vs:List V),Fv Z w a vs->Fv Z w' a vs:=λa vs hv=>hv.kept (λb j r=>p.block b r (λe=>h.apart b j e.y));refine⟨by simp[h.num],by simp[h.len],ZU,?_,?_⟩
 .intro i l y d g;by_cases hi:i<fs.length
  .rw[yr hi]at d;rw[yr T5]at g;obtain⟨a,c,e,hv⟩:=h.P i l y d g;exact⟨a,c,e,O a _ hv⟩
  have o:i<(fs++[f]).length:=(ye.1 d).1;simp at o;obtain rfl:i=fs.length:=qd;rw[yx AH]at d;rw[yx ZV,h.len]at g;simp at d g;subst d;subst g;obtain⟨a,c,e,hv⟩:=m;exact⟨a,c,e,O a _ hv⟩
 intro b j;rcases hl with hl|hl
 .rw[hl];exact h.apart b j
 rw[hl];intro e;cases e;have:=q _ j;omega
def gj{W a:World}(c:Below W.drew.heap.size W.drew a):(∀b o,b<W.heap.size->a.cell? ⟨b,o,none⟩=W.cell? ⟨b,o,none⟩)/\(∀b o,b<W.heap.size->a.frozen? ⟨b,o,none⟩=W.frozen? ⟨b,o,none⟩):=
 ⟨λb o h=>c.cell (p:=⟨b,o,none⟩) h,λb o h=>c.frozen (p:=⟨b,o,none⟩) h⟩
def Qp{w d f:World}{o}{v:Value}(i:(d.alloc o).grownBy f v.ownBlock)(hv:∀g,v.ownBlock=some g->g<w.heap.size)(b)(k:w.heap.size<=b)(O:b<d.heap.size) :
  (∀j,f.cell? ⟨b,j,none⟩=d.cell? ⟨b,j,none⟩)/\(∀j,f.frozen? ⟨b,j,none⟩=d.frozen? ⟨b,j,none⟩):=by
 have e:f.heap[b]?=d.heap[b]?:=(i.block b qf (λe=>by have:=hv b e.y;omega)).c (yS _ _ _ O);exact⟨λj=>yR (a:=⟨b,j,none⟩) e,λj=>by simp[World.frozen?,e]⟩
def kf(a c fs xs nx cp sg i sa T vs Z base w)(x:GL Z w base (.slice a fs.length c) fs.length fs xs)(H:∀b,Z b->b<w.heap.size)(aE:Bt w sa vs)(hl:fs.length<=1048576)(aI:vs.length<=1048576)(hbase:base<=w.heap.size)(h1:0<=nx)(R:nx<=1000000) :
  Ca 120 #[.agg #[.slice a fs.length c,I6 nx,I6 cp,.bool sg],.string i,.slice sa vs.length T] w λe w'=>
   (∃C B,e=.returned (C6.val ⟨fs++[⟨nx,i,vs⟩],nx+1,cp,sg,0,nx⟩ C B)/\DT (λb=>Z b∨base<=b) w' C (fs++[⟨nx,i,vs⟩])/\fs.length+1<=B)/\Below base w w':=by
 have aL:IntKind.i64.wrap (nx+1)=nx+1:=by rw[Yg];omega
 have aM:IntKind.i64.wrap (nx+1-1)=nx:=by rw[Yg];omega
 obtain⟨HP,p⟩:=Ah x (λg(hg:(Value.slice a fs.length c).ownBlock=some g)=>(x.Q.lt g hg).2);clear x;go_enter func120,ntmps120;go_wp2_with fail
 go_region_law (first|(go_simp;go_at_call 178;refine(mg sa T vs _ (aE.d ?_) aI).j ?_;exact AX.drew;rintro e l ⟨⟨a1,s,rfl,N⟩,n⟩;obtain⟨A,z⟩:=gj n;have HX:=Aa N;clear N;have q:=Aa ((HP.o.d AX.drew).d n);have aJ:w.heap.size+1<l.heap.size:=yg qe n.size;have aG:w.heap.size<l.heap.size:=qd)|(refine Hd qi (.tmp 8) (.tmp 15) 25 qi base 145 _ 3 48 underlying25 Of qi qd _ fs.length _ qi (q.o.Q.alloc _) (some ⟨l.heap.size,0,none⟩) 1 1 qi (A4 ⟨nx,i,vs⟩ (.slice a1 vs.length s)) qi (λe=>qo) (by exact OG _ _ _) (OL _ _ _ _) qj qd (by have R:=n.size;simp at R⊢;omega) ?_;intro G J w2 t r E;obtain⟨D,K⟩:=Qp r.o p.o w.heap.size AH aG;obtain⟨M,L⟩:=Qp r.o p.o (w.heap.size+1) qd aJ;have aO:=λj=>(D j).c (A w.heap.size j qf);have aN:=λj=>(K j).c (z w.heap.size j qf);have aC:=λj=>(M j).c (A (w.heap.size+1) j qe);have aP:=λj=>(L j).c (z (w.heap.size+1) j qe);clear D K M L A z)|fail)
 all_goals
  have aB:∀b,(Z b∨(w.heap.size+1+1<=b/\b<l.heap.size))->b<l.heap.size:=λb k=>by
   rcases k with k|k
   .have:=H b k;omega
   exact k.2
  have I:=(q.o.d (An.alloc AH (.cells (A4 ⟨nx,i,vs⟩ (.slice a1 vs.length s)).toArray 145))).j (Z':=λb=>Z b∨(w.heap.size+1+1<=b/\b<l.heap.size)) (λb k=>.inl k) (λb k=>by
   rcases k with k|k
   .exact q.o.apart b k
   intro e;have:=p.o b e;omega)
  have U:Fv (λb=>Z b∨(w.heap.size+1+1<=b/\b<l.heap.size)) (l.alloc (.cells (A4 ⟨nx,i,vs⟩ (.slice a1 vs.length s)).toArray 145)) a1 vs:=
   ((Fv.owns HX.o.2).j (λb k=>.inr (by have:=k.1;simp at this;exact⟨this,k.2⟩))).kept (λb _ aK=>yS _ _ _ aK)
  have hS:=I.snoc (f:=⟨nx,i,vs⟩) (λb k=>by have:=aB b k;simp;omega) ⟨a1,s,rfl,U⟩ t.o r.o E.o;obtain⟨HS,aH⟩:=Ah hS.on t.o.lt;clear I U hS;go_wp2;refine bodyPost_ret (v:=C6.val ⟨fs++[⟨nx,i,vs⟩],nx+1,cp,sg,0,nx⟩ G J) (by simp[results,results120,go_sem,aC,C6.val]) rfl ⟨⟨G,J,rfl,?_,L_ t.o⟩,?_⟩
  .refine(HS.o.kept (w':=_) ?_).j ?_;rotate_left
   .intro b O;rcases O with(O|O)|O
    .exact .inl O
    .exact .inr qd
    exact .inr (aH.o b O).1
   intro b O _;have m:b≠w.heap.size/\b≠w.heap.size+1:=by
    rcases O with(O|O)|O
    .have:=H b O;omega
    .omega
    rcases E.o with e|e
    .have:=p.o b (e.y.c O);omega
    have:=e.y.c O;simp at this;omega
   have Y:∀(v:World)o u,(v.setCell ⟨w.heap.size,o,none⟩ u).heap[b]?=v.heap[b]?:=λv o u=>yE _ _ _ _ m.1;have k2:∀(v:World)o u,(v.setCell ⟨w.heap.size+1,o,none⟩ u).heap[b]?=v.heap[b]?:=λv o u=>yE _ _ _ _ m.2;simp only[Y,k2]
  have aF:Below base w l:=(AX.drew.c (n.j qf)).j hbase;have W:Below base w w2:=(aF.alloc qd _).grown r.o qf (λj hj=>(q.o.Q.lt j hj).1);exact(((((((W.setCell qf _).setCell qf _).setCell qf _).setCell qf _).setCell qf _).setCell qf _).setCell qf _).setCell qf _
def BZ(fs:List F)(nx cp:Int)(sg:Bool)(cls:ByteArray)(vs:List V):C6:=
 if 0<EK sg 0 cls vs fs then⟨fs,nx,cp,sg,2,EK sg 0 cls vs fs⟩ else if(fs.length:Int)=cp then⟨fs,nx,cp,sg,3,0⟩ else if 1000000<nx then⟨fs,nx,cp,sg,4,0⟩ else⟨fs++[⟨nx,cls,vs⟩],nx+1,cp,sg,0,nx⟩
def Dl(fs:List F)(nx cp:Int)(sg:Bool)(cls:ByteArray)(vs:List V):C6:=
 if B_ fs nx cp sg&&(Aq cls.data.toList&&C4 vs) then BZ fs nx cp sg cls vs else C6.ad
def SE{fs nx cp sg a vs}(h:(B_ fs nx cp sg&&(Aq a.data.toList&&C4 vs))=false):Dl fs nx cp sg a vs=C6.ad:=by unfold Dl;rw[h];rfl
def Sv{fs nx cp sg a vs}(d:B_ fs nx cp sg=true)(b:Aq a.data.toList=true)(c:C4 vs=true):Dl fs nx cp sg a vs=BZ fs nx cp sg a vs:=by unfold Dl;rw[d,b,c];rfl
def Tk{fs nx cp sg}(h:B_ fs nx cp sg=true):0<=cp/\cp<=40/\(fs.length:Int)<=cp/\1<=nx/\nx<=1000001:=by
 simp only[B_,FO,yi,decide_eq_true_eq]at h;omega
def zmo(a c fs nx cp sg g sa t vs w)(hv:Bz w a fs)(y:Bt w sa vs)(m:fs.length<=c)(hl:fs.length<=1048576)(l:∀f∈fs,AJ f)(s:g.size<=maxLen)(u:vs.length<=1048576)(z:∀v∈vs,v.J.size<=maxLen)(k:(B_ fs nx cp sg&&(Aq g.data.toList&&C4 vs))=false) :
  Ca 60 #[.agg #[.slice a fs.length c,I6 nx,I6 cp,.bool sg],.string g,.slice sa vs.length t] w λe w'=>
   (∃p n,e=.returned (C6.ad.val p n)/\DT (λb=>w.heap.size<=b) w' p C6.ad.fs/\C6.ad.fs.length<=n)/\Bw w w':=by
 cases D:B_ fs nx cp sg
 .clear k;go_enter func60,ntmps60;go_wp2_with (go_at_call 115;refine(JT a c fs nx cp sg _ (hv.d AX) m hl l).rtn λw1 O=>?_;obtain⟨ah,o⟩:=Aw O);refine bodyPost_ret (v:=C6.ad.val none 0) pe rfl ⟨⟨none,0,rfl,λi f hf=>Nt,yk _⟩,?_⟩;exact ZM
 rw[D,YJ]at k;cases A:Aq g.data.toList
 focus
  clear k;go_enter func60,ntmps60;go_wp2_with (first|(go_at_call 115;refine(JT a c fs nx cp sg _ (hv.d AX) m hl l).rtn λw1 O=>?_;obtain⟨ah,o⟩:=Aw O)|(go_at_call 116;refine(He g _ s).j ?_;rintro e w' ⟨rfl,rfl⟩)|fail);refine bodyPost_ret (v:=C6.ad.val none 0) pe rfl ⟨⟨none,0,rfl,λi f hf=>Nt,yk _⟩,?_⟩;have hB:Bw w _:=AX.thn O
 rotate_left
 focus
  rw[A,YJ]at k;go_enter func60,ntmps60;go_wp2_with (first|(go_at_call 115;refine(JT a c fs nx cp sg _ (hv.d AX) m hl l).rtn λw1 O=>?_;obtain⟨ah,o⟩:=Aw O;have q:Bw w w1:=(AX.thn O);have B:w.heap.size+1<w1.heap.size:=yg qe O.size)|(go_at_call 116;refine(He g _ s).j ?_;rintro e w' ⟨rfl,rfl⟩)|(go_at_call 117;refine(OM sa t vs _ (y.d q) u z).rtn λx r=>?_;obtain⟨C,E⟩:=Aw r)|fail);refine bodyPost_ret (v:=C6.ad.val none 0) (by simp[results,results60,go_sem,ah,C,B,C6.val,C6.ad]) rfl ⟨⟨none,0,rfl,λi f hf=>Nt,yk _⟩,?_⟩;have hB:Bw w x:=q.thn r
 rotate_left
 all_goals
  exact(((((hB.setCell qe _).setCell qe _).setCell qe _).setCell qe _).setCell qe _).setCell qe _
def ZA(h:P:=by rw[HE.o];exact⟨⟨a2,c2,rfl,(ah.o.kept (λg hg=>O.o.block g (by have:=(ah.o.range hg).1;omega))).on.j (λb hb=>by have:=hb.1;omega),L_ ah.o.Q⟩,aq.c (O.o.d (by omega))⟩):=h
def zn4(a c fs nx cp sg i sa C vs w)(hv:Bz w a fs)(B:Bt w sa vs)(hc:fs.length<=c)(hl:fs.length<=1048576)(E:∀f∈fs,AJ f)(a0:i.size<=maxLen)(Y:vs.length<=1048576)(aV:∀v∈vs,v.J.size<=maxLen)(aZ:B_ fs nx cp sg=true)(a8:Aq i.data.toList=true)(bc:C4 vs=true) :
  Ca 60 #[.agg #[.slice a fs.length c,I6 nx,I6 cp,.bool sg],.string i,.slice sa vs.length C] w λe w'=>
   (∃W U,e=.returned ((BZ fs nx cp sg i vs).val W U)/\DT (λb=>w.heap.size<=b) w' W (BZ fs nx cp sg i vs).fs/\(BZ fs nx cp sg i vs).fs.length<=U)/\Bw w w':=by
 have q:∀f∈fs,f.s.length<=1048576:=λf hf=>(E f hf).2.1;obtain⟨n1,n2,n3,n4,n5⟩:=Tk aZ;go_enter func60,ntmps60;go_wp2_with (first|(go_at_call 115;refine(JT a c fs nx cp sg _ (hv.d AX) hc hl E).rtn λw0 k=>?_;obtain⟨aY,aT⟩:=Aw k;have aQ:Bw w w0:=(AX.thn k);have aG:w.heap.size+1<w0.heap.size:=yg qe k.size;have aF:w.heap.size<w0.heap.size:=qd)|(go_at_call 116;refine(He i _ a0).j ?_;rintro e w' ⟨rfl,rfl⟩)|(go_at_call 117;refine(OM sa C vs _ (B.d aQ) Y aV).rtn λn u=>?_;obtain⟨aS,aU⟩:=Aw u)|fail);have D:Bw w n:=aQ.thn u;have aW:w.heap.size+1<n.heap.size:=yg aG u.size;obtain⟨R,hR,A⟩:∃R:Array Value,n.heap[w.heap.size+1]?=some (.cells R 87 (0,0))/\R.size=6:=⟨_,(u.block _ aG).c ((k.block _ qe).c (EA _ _ _ qe)),rfl⟩
 have aH:n.heap[w.heap.size]?=some (.cells (JX a fs.length c nx cp sg).toArray 27 (0,0)):=(u.block _ aF).c ((k.block _ qf).c ((yS _ _ _ qe).c (EA _ _ _ rfl)));clear aY aT aS aU;refine(Tf a c fs nx cp sg n (hv.d D) hl q).j ?_;rintro e w2 ⟨⟨a2,c2,a6,rfl,aK⟩,x⟩;obtain⟨aN,aP⟩:=Ah (Du aH x) (Du hR x);have L:Bw w w2:=D.thn x;have a9:=x.size;clear aH hR;go_wp2_with (first|(refine C7 qi 27 (.tmp 7) (.tmp 24) qi w2.heap.size (JX a2 fs.length c2 nx cp sg) qi qi _ 27 (EA _ _ _ rfl) qi UI (io _ _ _ _ _ _) ?_;intro aL aE r;have K:=Aa (Sn aN.o r.o))|(refine X7 qi 27 (.tmp 3) qi w.heap.size (JX a fs.length c nx cp sg) qi 27 (0,0) K.o _ underlying27 qi UI ?_)|fail);have G:=DM r.o;have a7:=Vt r.o;have N:Bw w aL:=L.thn G;obtain⟨aA,Z⟩:=Ah (Sn aP.o r.o) (aK.d G);clear r aN aP aK G;refine(lV a c fs nx cp sg 0 i sa C vs aL (hv.d N) (B.d N) hl q).rtn λw3 m=>?_;obtain⟨a3,aR,y,ah⟩:=Bn (Du K.o m) (Du aE.o m) (Du aA.o m) (Z.o.d m);have aq:Bw w w3:=N.thn m;have bd:=m.size;have aJ:=B.d aq;obtain⟨q0,q1,q2,q3⟩:=IL a3.o;obtain⟨p0,p1,p2,p3⟩:=IL aR.o;clear K aA Z aE m hv B E;generalize l:EK sg 0 i vs fs=T;by_cases z:0<T
 .have HE:=Aa (show BZ fs nx cp sg i vs=⟨fs,nx,cp,sg,2,T⟩ by unfold BZ;rw[l,if_pos z]);clear l;go_wp2_with (first|(refine C7 qi 87 (.tmp 6) (.tmp 34) qi (w.heap.size+1) (C6.cells ⟨fs,nx,cp,sg,2,T⟩ a2 c2) qi qi R 87 y.o A GS (C6.one _ _ _) ?_;intro I ai O)|fail)
  try go_frame
  refine bodyPost_ret (v:=C6.val ⟨fs,nx,cp,sg,2,T⟩ a2 c2) qN rfl ?_;exact ZA
 by_cases p:(fs.length:Int)=cp
 .have HE:=Aa (show BZ fs nx cp sg i vs=⟨fs,nx,cp,sg,3,0⟩ by unfold BZ;rw[l,if_neg z,if_pos p]);have aX:((fs.length:Int)==cp)=true:=by simpa using p
  clear l;go_wp2_with (first|(refine C7 qi 87 (.tmp 6) (.tmp 43) qi (w.heap.size+1) (C6.cells ⟨fs,nx,cp,sg,3,0⟩ a2 c2) qi qi R 87 y.o A GS (C6.one _ _ _) ?_;intro I ai O)|fail)
  try go_frame
  refine bodyPost_ret (v:=C6.val ⟨fs,nx,cp,sg,3,0⟩ a2 c2) qN rfl ?_;exact ZA
 have aX:((fs.length:Int)==cp)=false:=by simpa using p
 by_cases t:1000000<nx
 .have HE:=Aa (show BZ fs nx cp sg i vs=⟨fs,nx,cp,sg,4,0⟩ by unfold BZ;rw[l,if_neg z,if_neg p,if_pos t]);clear l;go_wp2_with (first|(refine C7 qi 87 (.tmp 6) (.tmp 49) qi (w.heap.size+1) (C6.cells ⟨fs,nx,cp,sg,4,0⟩ a2 c2) qi qi R 87 y.o A GS (C6.one _ _ _) ?_;intro I ai O)|fail)
  try go_frame
  refine bodyPost_ret (v:=C6.val ⟨fs,nx,cp,sg,4,0⟩ a2 c2) qN rfl ?_;exact ZA
 have HE:=Aa (show BZ fs nx cp sg i vs=⟨fs++[⟨nx,i,vs⟩],nx+1,cp,sg,0,nx⟩ by unfold BZ;rw[l,if_neg z,if_neg p,if_neg t]);clear l;go_wp2_with (first|fail);refine(kf a2 c2 fs a6 nx cp sg i sa C vs _ n.heap.size w3 ah.o.dF (λb hb=>hb.2.1) aJ hl Y qd qd qd).j ?_;rintro e w5 ⟨⟨H,M,rfl,aM,aC⟩,aO⟩;have a4:=Aa ((aO.block (w.heap.size+1) aW).c y.o);go_wp2_with (first|(refine C7 qi 87 (.tmp 6) (.tmp 53) qi (w.heap.size+1) (C6.cells ⟨fs++[⟨nx,i,vs⟩],nx+1,cp,sg,0,nx⟩ H M) qi qi R 87 a4.o A GS (C6.one _ _ _) ?_;intro I ai O)|fail)
 try go_frame
 refine bodyPost_ret (v:=C6.val ⟨fs++[⟨nx,i,vs⟩],nx+1,cp,sg,0,nx⟩ H M) qN rfl ?_;rw[HE.o];refine⟨⟨H,M,rfl,?_,by rw[yP];exact aC⟩,(aq.c (aO.j D.size)).c (O.o.d qd)⟩;exact(aM.kept (λb hz _=>O.o.block b Ug)).j (λb hz=>Ug)
def zlG(a c fs nx cp sg d sa g vs w)(hv:Bz w a fs)(o:Bt w sa vs)(m:fs.length<=c)(hl:fs.length<=1048576)(k:∀f∈fs,AJ f)(O:d.size<=maxLen)(n:vs.length<=1048576)(j:∀v∈vs,v.J.size<=maxLen) :
  Ca 60 #[.agg #[.slice a fs.length c,I6 nx,I6 cp,.bool sg],.string d,.slice sa vs.length g] w λe w'=>
   (∃i l,e=.returned ((Dl fs nx cp sg d vs).val i l)/\DT (λb=>w.heap.size<=b) w' i (Dl fs nx cp sg d vs).fs/\(Dl fs nx cp sg d vs).fs.length<=l)/\Bw w w':=by
 cases h:(B_ fs nx cp sg&&(Aq d.data.toList&&C4 vs))
 .rw[SE h];exact zmo a c fs nx cp sg d sa g vs w hv o m hl k O n j h
 simp only[yi]at h;rw[Sv h.1 h.2.1 h.2.2];exact zn4 a c fs nx cp sg d sa g vs w hv o m hl k O n j h.1 h.2.1 h.2.2
end
def f9(fs:List F)(i:Nat):ByteArray:=match fs[i]? with|some f=>f.z|none=>ByteArray.empty
def JH(fs:List F)(nx cp:Int)(sg:Bool)(tag:Int)(cls:ByteArray)(vs:List V)(i:Nat):C6:=
 if 0<EK sg tag cls vs fs then⟨fs,nx,cp,sg,2,EK sg tag cls vs fs⟩ else if 1000000<nx then⟨fs,nx,cp,sg,4,0⟩ else⟨fs.eraseIdx i++[⟨nx,cls,vs⟩],nx+1,cp,sg,0,nx⟩
def BP(fs:List F)(nx cp:Int)(sg:Bool)(tag:Int)(vs:List V):C6:=
 if B_ fs nx cp sg&&C4 vs then(match AD tag fs with|none=>⟨fs,nx,cp,sg,5,0⟩|some i=>JH fs nx cp sg tag (f9 fs i) vs i) else C6.ad
def SD{fs nx cp sg tag vs}(h:(B_ fs nx cp sg&&C4 vs)=false):BP fs nx cp sg tag vs=C6.ad:=by unfold BP;rw[h];rfl
def S9{fs nx cp sg tag vs}(b:B_ fs nx cp sg=true)(a:C4 vs=true)(c:AD tag fs=none):BP fs nx cp sg tag vs=⟨fs,nx,cp,sg,5,0⟩:=by unfold BP;rw[b,a,c];rfl
def Ti{fs nx cp sg tag vs i f}(c:B_ fs nx cp sg=true)(a:C4 vs=true)(d:AD tag fs=some i)(b:fs[i]?=some f):BP fs nx cp sg tag vs=JH fs nx cp sg tag f.z vs i:=by
 unfold BP f9;rw[c,a,d];simp only[Ku,if_true,b]
def lL{fs nx cp sg tag T a vs i}(b:EK sg tag a vs fs=T)(c:0<T):JH fs nx cp sg tag a vs i=⟨fs,nx,cp,sg,2,T⟩:=by
 unfold JH;rw[b,if_pos c]
def lx{fs nx cp sg tag T a vs i}(b:EK sg tag a vs fs=T)(d:¬0<T)(c:1000000<nx):JH fs nx cp sg tag a vs i=⟨fs,nx,cp,sg,4,0⟩:=by
 unfold JH;rw[b,if_neg d,if_pos c]
def kD{fs nx cp sg tag T a vs i}(b:EK sg tag a vs fs=T)(d:¬0<T)(c:¬1000000<nx):JH fs nx cp sg tag a vs i=⟨fs.eraseIdx i++[⟨nx,a,vs⟩],nx+1,cp,sg,0,nx⟩:=by
 unfold JH;rw[b,if_neg d,if_neg c]
section
attribute [local go_sem ↓] wp_at_zero wp_at_succ
def iy(a c fs xs nx cp sg f sa Y base w)(t:Bk w base (.slice a fs.length c) fs.length fs xs)(aD:Bt w sa f.s)(hl:fs.length<=1048576)(aH:f.s.length<=1048576)(hbase:base<=w.heap.size)(h1:0<=f.tag)(U:f.tag<=1000000) :
  Ca 218 #[.agg #[.slice a fs.length c,I6 nx,I6 cp,.bool sg],.agg #[I6 f.tag,.string f.z,.slice sa f.s.length Y]] w λe w'=>
   (∃E D B,e=.returned (C6.val ⟨fs++[f],f.tag+1,cp,sg,0,f.tag⟩ E D)/\Bk w' base (.slice E (fs++[f]).length D) (fs++[f]).length (fs++[f]) B)/\Below base w w':=by
 have aL:IntKind.i64.wrap (f.tag+1)=f.tag+1:=by rw[Yg];omega
 have aO:w.heap.size<w.heap.size+1+1:=qd;obtain⟨C,q,aB⟩:=AA t (λg(b:(Value.slice a fs.length c).ownBlock=some g)=>(t.Q.lt g b).2) (λg(b:Pk (.slice a fs.length c) xs g)=>t.range b);clear t;go_enter func218,ntmps218;go_wp2_with fail
 go_region_law (first|(go_simp;go_at_call 259;refine(nO f sa Y _ (aD.d ?_) aH).j ?_;exact Bj.drew;rintro e p ⟨⟨a1,L,rfl,M⟩,O⟩;obtain⟨x,r⟩:=gj O;have T:=Aa M;clear M;have A:=Aa ((C.o.d Bj.drew).d O);have aJ:w.heap.size+1+1<p.heap.size:=yg qe O.size;have aK:w.heap.size+1<p.heap.size:=qd;have aF:w.heap.size<p.heap.size:=qd)|(refine Hd qi (.tmp 6) (.tmp 9) 25 qi base 145 _ 3 48 underlying25 Of qi qd _ fs.length _ qi (A.o.Q.alloc _) (some ⟨p.heap.size,0,none⟩) 1 1 qi (A4 f (.slice a1 f.s.length L)) qi (λe=>qo) (by exact OG _ _ _) (OL _ _ _ _) qj qd (by have U:=O.size;simp at U⊢;omega) ?_;intro R W w2 aI l G;obtain⟨N,K⟩:=Qp l.o q.o w.heap.size AH aF;obtain⟨I,H⟩:=Qp l.o q.o (w.heap.size+1) qd aK;obtain⟨Z,J⟩:=Qp l.o q.o (w.heap.size+1+1) qd aJ;have aQ:=λj=>(N j).c (x w.heap.size j qf);have aP:=λj=>(K j).c (r w.heap.size j qf);have aN:=λj=>(I j).c (x (w.heap.size+1) j qe);have aR:=λj=>(H j).c (r (w.heap.size+1) j qe);have aA:=λj=>(Z j).c (x (w.heap.size+1+1) j qe);have aM:=λj=>(J j).c (r (w.heap.size+1+1) j qe);clear N K I H Z J x r)|fail)
 all_goals
  have m:=T.o;have hS:=(A.o.d Aj).snoc ⟨m.1,(CA m.2 qf).alloc _⟩ (Ta C.o.Q m.2 qf) (λy i=>by
    obtain⟨f',_,aG⟩:=C.o.bA i;exact Ta aG m.2 qf) aI.o l.o G.o
  have HS:=Aa hS;clear hS m;go_wp2;have n:(fs++[f]).length=fs.length+1:=qe;refine bodyPost_ret (v:=C6.val ⟨fs++[f],f.tag+1,cp,sg,0,f.tag⟩ R W) (by simp[results,results218,go_sem,aA,C6.val]) rfl ⟨⟨R,W,xs++[.slice a1 f.s.length L],rfl,?_⟩,?_⟩
  .rw[n];refine HS.o.kept ?_;intro g b;have k:g≠w.heap.size/\g≠w.heap.size+1+1:=by
    rcases b with b|⟨y,i,b⟩
    .rcases G.o with e|e
     .have:=q.o g (e.y.c b);omega
     have:=e.y.c b;simp at this;omega
    rcases yn.1 i with i|i
    .have:=(aB.o g (.inr ⟨y,i,b⟩)).2;omega
    simp at i;subst i;have:=(T.o.2.lt g b).1;simp at this;omega
   have k1:∀(v:World)o u,(v.setCell ⟨w.heap.size,o,none⟩ u).heap[g]?=v.heap[g]?:=λv o u=>yE _ _ _ _ k.1;have k2:∀(v:World)o u,(v.setCell ⟨w.heap.size+1+1,o,none⟩ u).heap[g]?=v.heap[g]?:=λv o u=>yE _ _ _ _ k.2;simp only[k1,k2]
  have aE:Below base w p:=(Bj.drew.c (O.j qf)).j hbase;have aC:Below base w w2:=(aE.alloc qd _).grown l.o qf (λj hj=>(A.o.Q.lt j hj).1);exact(((((((aC.setCell qf _).setCell qf _).setCell qf _).setCell qf _).setCell qf _).setCell qf _).setCell qf _).setCell qf _
def zvZ{B w w'}(a:Below B w w'){b o x}(O:b<B)(h:At w b o x):At w' b o x:=(a.cell (p:=⟨b,o,none⟩) O).c h
def ZP(cls:ByteArray)(tag:Int)(sa:Option Addr)(n sc:Nat):List Value:=[.string cls,.int .i64 tag,.slice sa n sc]
def Vq{w:World}{b a tag sa n d t e}(h:w.heap[b]?=some (.cells (ZP a tag sa n d).toArray t e)):At w b 0 (.string a)/\At w b 1 (I6 tag)/\At w b 2 (.slice sa n d):=by
 have c:=JS h;exact⟨c 0 _ rfl,c 1 _ rfl,c 2 _ rfl⟩
def zoW(a c fs nx cp sg b tag sa s vs w)(hv:Bz w a fs)(x:Bt w sa vs)(hl:fs.length<=1048576)(l:∀f∈fs,AJ f)(k:∀f∈fs,Db f)(r:b.size<=maxLen)(t:vs.length<=1048576)(y:∀v∈vs,v.J.size<=maxLen)(i:(B_ fs nx cp sg&&(Aq b.data.toList&&C4 vs))=false) :
  Ca 157 #[.agg #[.slice a fs.length c,I6 nx,I6 cp,.bool sg],.agg #[.string b,I6 tag,.slice sa vs.length s]] w λe w'=>
   (∃o m xs,e=.returned (C6.ad.val o m)/\Bk w' w.heap.size (.slice o C6.ad.fs.length m) C6.ad.fs.length C6.ad.fs xs)/\Bw w w':=by
 cases C:B_ fs nx cp sg
 .clear i;go_enter func157,ntmps157;go_wp2_with (go_at_call 213;refine(JU a c fs nx cp sg _ (hv.d Bj) hl l k).rtn λg O=>?_;obtain⟨ah,n⟩:=Aw O);refine bodyPost_ret (v:=C6.ad.val none 0) ph rfl ⟨⟨none,0,[],rfl,Bk.nil _ _⟩,?_⟩;have hB:Bw w g:=Bj.thn O;exact pU
 rw[C,YJ]at i;cases z:Aq b.data.toList
 focus
  clear i;go_enter func157,ntmps157;go_wp2_with (first|(go_at_call 213;refine(JU a c fs nx cp sg _ (hv.d Bj) hl l k).rtn λg O=>?_;obtain⟨ah,n⟩:=Aw O)|(go_at_call 197;refine(IM b _ r).j ?_;rintro e w' ⟨rfl,rfl⟩)|fail);refine bodyPost_ret (v:=C6.ad.val none 0) ph rfl ⟨⟨none,0,[],rfl,Bk.nil _ _⟩,?_⟩;have hB:Bw w _:=Bj.thn O
 rotate_left
 focus
  rw[z,YJ]at i;go_enter func157,ntmps157;go_wp2_with (first|(go_at_call 213;refine(JU a c fs nx cp sg _ (hv.d Bj) hl l k).rtn λg O=>?_;obtain⟨ah,n⟩:=Aw O;have p:Bw w g:=(Bj.thn O);have A:w.heap.size+1+1<g.heap.size:=yg qe O.size)|(go_at_call 197;refine(IM b _ r).j ?_;rintro e w' ⟨rfl,rfl⟩)|(go_at_call 214;refine(Qz sa s vs _ (x.d p) t y).rtn λu q=>?_;obtain⟨B,D⟩:=Aw q)|fail);refine bodyPost_ret (v:=C6.ad.val none 0) (by simp[results,results157,go_sem,ah,B,A,C6.val,C6.ad]) rfl ⟨⟨none,0,[],rfl,Bk.nil _ _⟩,?_⟩;have hB:Bw w u:=p.thn q
 rotate_left
 all_goals
  exact(((((hB.setCell qf _).setCell qf _).setCell qf _).setCell qf _).setCell qf _).setCell qf _
def ZL(h:P:=by rw[HE.o];exact⟨⟨a3,c3,aj,rfl,(af.kept (λg hg=>ai.o.block g (by have:=(af.range hg).1;omega))).lower hB2.size⟩,(hB2.thn O).c (ai.o.d (by omega))⟩):=h
def wi(a c fs nx cp sg i tag sa q vs w)(hv:Bz w a fs)(G:Bt w sa vs)(hl:fs.length<=1048576)(z:∀f∈fs,AJ f)(M:∀f∈fs,Db f)(aO:i.size<=maxLen)(W:vs.length<=1048576)(K:∀v∈vs,DO v)(aI:B_ fs nx cp sg=true)(a4:Aq i.data.toList=true)(aP:C4 vs=true) :
  Ca 157 #[.agg #[.slice a fs.length c,I6 nx,I6 cp,.bool sg],.agg #[.string i,I6 tag,.slice sa vs.length q]] w λe w'=>
   (∃Z U xs,e=.returned ((BZ fs nx cp sg i vs).val Z U)/\Bk w' w.heap.size (.slice Z (BZ fs nx cp sg i vs).fs.length U) (BZ fs nx cp sg i vs).fs.length (BZ fs nx cp sg i vs).fs xs)/\Bw w w':=by
 have n:∀f∈fs,f.s.length<=1048576:=λf hf=>(z f hf).2.1;have az:∀v∈vs,v.J.size<=maxLen:=λv h=>(K v h).2.2;obtain⟨n1,n2,n3,n4,n5⟩:=Tk aI;have aH:=Qr aI;have ay:=UF z M aH;have aG:vs.length<=6:=by simp only[C4,yi,decide_eq_true_eq]at aP;exact aP.1
 have aK:Gf ⟨nx,i,vs⟩:=⟨aO,aG,K⟩
 have aU:EK sg 0 i vs fs=0∨0<EK sg 0 i vs fs:=by
  unfold EK;split
  .exact XV (Y8 0) aH
  exact .inl rfl
 go_enter func157,ntmps157;go_wp2_with (first|(go_at_call 213;refine(JU a c fs nx cp sg _ (hv.d Bj) hl z M).rtn λw0 k=>?_;obtain⟨aV,aR⟩:=Aw k;have aQ:Bw w w0:=(Bj.thn k);have aJ:w.heap.size+1+1<w0.heap.size:=yg qe k.size)|(go_at_call 197;refine(IM i _ aO).j ?_;rintro e w' ⟨rfl,rfl⟩)|(go_at_call 214;refine(Qz sa q vs _ (G.d aQ) W az).rtn λl r=>?_;have I:=Du (Du (w:=_) (o:=.cells (JX a fs.length c nx cp sg).toArray 27 (0,0)) (b:=w.heap.size) ((yS _ _ _ qf).c ((yS _ _ _ qe).c (EA _ _ _ rfl))) k) r;have aL:=Du (Du (w:=_) (o:=.cells (ZP i tag sa vs.length q).toArray 171 (0,0)) (b:=w.heap.size+1) ((yS _ _ _ qe).c (EA _ _ _ qe)) k) r;obtain⟨q0,N,q2,Y⟩:=IL I;obtain⟨t0,t1,t2⟩:=Vq aL;have a7:w.heap.size+1+1<l.heap.size:=yg aJ r.size;have aZ:w.heap.size<l.heap.size:=qd;have a0:w.heap.size+1<l.heap.size:=qd)|fail);have H:Bw w l:=aQ.thn r;obtain⟨R,hR,C⟩:∃R:Array Value,l.heap[w.heap.size+1+1]?=some (.cells R 87 (0,0))/\R.size=6:=⟨_,(r.block _ aJ).c ((k.block _ qe).c (EA _ _ _ qe)),rfl⟩
 obtain⟨aF,aA⟩:=Ah hR I;clear q0 N q2 Y t0 t1 t2 aL k r aV aR I hR;refine(j_ a c fs nx cp sg ⟨nx,i,vs⟩ sa q 0 _ ((hv.d H).d Aj) ((G.d H).d Aj) hl ay aK).rtn λm t=>?_;have E:Bw l m:=Aj.thn t;have hB2:Bw w m:=H.thn E;obtain⟨aY,y⟩:=Ah (Du aA.o E) (Du aF.o E);have g0:At m l.heap.size 0 (I6 nx):=zab t ql;have g1:At m l.heap.size 1 (.string i):=zab t ql;have g2:At m l.heap.size 2 (.slice sa vs.length q):=zab t ql;obtain⟨q0,N,q2,Y⟩:=IL aY.o;have x:=hv.d hB2;have aN:=G.d hB2;have a8:l.heap.size<m.heap.size:=yg qe t.size;clear aA aF t E hv G z M ay aK K az;generalize p:EK sg 0 i vs fs=T at aU;by_cases D:0<T
 .have HE:=Aa (show BZ fs nx cp sg i vs=⟨fs,nx,cp,sg,2,T⟩ by unfold BZ;rw[p,if_pos D]);have aa:(T != 0)=true:=by simp;omega
  clear p;go_wp2_with (first|(go_at_call 216;refine(M9 a c fs nx cp sg 2 T m x hl n).j ?_;rintro e B ⟨⟨a3,c3,aj,rfl,af⟩,O⟩)|(refine C7 qi 87 (.tmp 4) (.tmp 37) qi (w.heap.size+1+1) (C6.cells ⟨fs,nx,cp,sg,2,T⟩ a3 c3) qi qi R 87 (Du y.o O) C GS (C6.one _ _ _) ?_;intro w4 aq ai)|fail)
  try go_frame
  refine bodyPost_ret (v:=C6.val ⟨fs,nx,cp,sg,2,T⟩ a3 c3) Z2 rfl ?_;exact ZL
 have aS:T=0:=qd;subst aS;by_cases A:(fs.length:Int)=cp
 .have HE:=Aa (show BZ fs nx cp sg i vs=⟨fs,nx,cp,sg,3,0⟩ by unfold BZ;rw[p,if_neg D,if_pos A]);have a6:cp<=(fs.length:Int):=qd;clear p A;go_wp2_with (first|(go_at_call 216;refine(M9 a c fs nx cp sg 3 0 m x hl n).j ?_;rintro e B ⟨⟨a3,c3,aj,rfl,af⟩,O⟩)|(refine C7 qi 87 (.tmp 4) (.tmp 45) qi (w.heap.size+1+1) (C6.cells ⟨fs,nx,cp,sg,3,0⟩ a3 c3) qi qi R 87 (Du y.o O) C GS (C6.one _ _ _) ?_;intro w4 aq ai)|fail)
  try go_frame
  refine bodyPost_ret (v:=C6.val ⟨fs,nx,cp,sg,3,0⟩ a3 c3) Z2 rfl ?_;exact ZL
 have a9:(fs.length:Int)<cp:=qd;by_cases u:1000000<nx
 .have HE:=Aa (show BZ fs nx cp sg i vs=⟨fs,nx,cp,sg,4,0⟩ by unfold BZ;rw[p,if_neg D,if_neg A,if_pos u]);clear p;go_wp2_with (first|(go_at_call 216;refine(M9 a c fs nx cp sg 4 0 m x hl n).j ?_;rintro e B ⟨⟨a3,c3,aj,rfl,af⟩,O⟩)|(refine C7 qi 87 (.tmp 4) (.tmp 50) qi (w.heap.size+1+1) (C6.cells ⟨fs,nx,cp,sg,4,0⟩ a3 c3) qi qi R 87 (Du y.o O) C GS (C6.one _ _ _) ?_;intro w4 aq ai)|fail)
  try go_frame
  refine bodyPost_ret (v:=C6.val ⟨fs,nx,cp,sg,4,0⟩ a3 c3) Z2 rfl ?_;exact ZL
 have HE:=Aa (show BZ fs nx cp sg i vs=⟨fs++[⟨nx,i,vs⟩],nx+1,cp,sg,0,nx⟩ by unfold BZ;rw[p,if_neg D,if_neg A,if_neg u]);clear p;go_wp2_with fail
 go_region_held3 (λw'=>At w' w.heap.size 0 (.slice a fs.length c)/\At w' w.heap.size 1 (I6 nx)/\At w' w.heap.size 2 (I6 cp)/\At w' w.heap.size 3 (.bool sg)/\At w' l.heap.size 0 (I6 nx)/\At w' l.heap.size 1 (.string i)/\At w' l.heap.size 2 (.slice sa vs.length q))
  ((go_split_ands;refine⟨?_,?_,?_,?_,?_,?_,?_⟩<;>first|((with_reducible refine zaN (zaN (zaN (zaN (zaN (zaN ?_ ?_ _) ?_ _) ?_ _) ?_ _) ?_ _) ?_ _)<;>first|with_reducible assumption|(dsimp only;omega))|(with_reducible refine zvZ L ?_ qk;show _<m.heap.size;omega)|with_reducible exact zab O qk|with_reducible exact zcN qk))
  (first|(go_at_call 217;refine(nB a c fs nx cp sg _ (x.d ?_) hl n).j ?_;exact An.drew;rintro e B ⟨⟨a3,c3,aj,rfl,af⟩,O⟩)|(go_at_call 218;refine(iy a3 c3 fs aj nx cp sg ⟨nx,i,vs⟩ sa q m.heap.size B af (aN.d ?_) hl W O.size (by show 0<=nx;omega) (by show nx<=1000000;omega)).j ?_;exact An.drew.c O;rintro e w5 ⟨⟨a5,c5,aX,rfl,aT⟩,L⟩;dsimp only[C6.val];obtain⟨x0,x1,x2,x3,x4,x5,y0,y1,y2,y3,y4,y5,z0,z1,z2,z3,z4,z5⟩:=Nj (b:=w.heap.size+1+1) ((L.block _ qd).c (Du (w:=m.drew) y.o O)) C)|fail)
 go_wp2;refine bodyPost_ret (v:=C6.val ⟨fs++[⟨nx,i,vs⟩],nx+1,cp,sg,0,nx⟩ a5 c5) (by simp[results,results157,go_sem,C6.val, *]) rfl ?_;rw[HE.o];refine⟨⟨a5,c5,aX,rfl,?_⟩,?_⟩
 .exact((((((aT.set qf _).set qf _).set qf _).set qf _).set qf _).set qf _).lower hB2.size
 have aW:Bw w w5:=(hB2.drew.c (O.j hB2.size)).c (L.j hB2.size);exact(((((aW.setCell qf _).setCell qf _).setCell qf _).setCell qf _).setCell qf _).setCell qf _
def wm(a c fs nx cp sg b tag sa d vs w)(hv:Bz w a fs)(n:Bt w sa vs)(hl:fs.length<=1048576)(j:∀f∈fs,AJ f)(k:∀f∈fs,Db f)(O:b.size<=maxLen)(m:vs.length<=1048576)(i:∀v∈vs,DO v) :
  Ca 157 #[.agg #[.slice a fs.length c,I6 nx,I6 cp,.bool sg],.agg #[.string b,I6 tag,.slice sa vs.length d]] w λe w'=>
   (∃g l xs,e=.returned ((Dl fs nx cp sg b vs).val g l)/\Bk w' w.heap.size (.slice g (Dl fs nx cp sg b vs).fs.length l) (Dl fs nx cp sg b vs).fs.length (Dl fs nx cp sg b vs).fs xs)/\Bw w w':=by
 cases h:(B_ fs nx cp sg&&(Aq b.data.toList&&C4 vs))
 .rw[SE h];exact zoW a c fs nx cp sg b tag sa d vs w hv n hl j k O m (λv h=>(i v h).2.2) h
 simp only[yi]at h;rw[Sv h.1 h.2.1 h.2.2];exact wi a c fs nx cp sg b tag sa d vs w hv n hl j k O m i h.1 h.2.1 h.2.2
def GL.kept{Z w w' base v n fs xs}(h:GL Z w base v n fs xs)(d:∀b,(Z b∨v.ownBlock=some b)->w'.heap[b]?=w.heap[b]?):GL Z w' base v n fs xs:=
 ⟨h.num,h.len,Bv h.Q (λg k=>d g (.inr k)),λi f x l j=>by
  obtain⟨a,c,e,hv⟩:=h.P i f x l j
  exact⟨a,c,e,hv.kept (λb O _=>d b (.inl O))⟩,h.apart⟩
def zmi(a c fs nx cp sg tag sa q vs w)(hv:Bz w a fs)(t:Bt w sa vs)(s:fs.length<=c)(hl:fs.length<=1048576)(r:∀f∈fs,AJ f)(y:vs.length<=1048576)(C:∀v∈vs,v.J.size<=maxLen)(o:(B_ fs nx cp sg&&C4 vs)=false) :
  Ca 62 #[.agg #[.slice a fs.length c,I6 nx,I6 cp,.bool sg],I6 tag,.slice sa vs.length q] w λe w'=>
   (∃n k,e=.returned (C6.ad.val n k)/\DT (λb=>w.heap.size<=b) w' n C6.ad.fs/\C6.ad.fs.length<=k)/\Bw w w':=by
 cases x:B_ fs nx cp sg
 focus
  clear o;go_enter func62,ntmps62;go_wp2_with (go_at_call 115;refine(JT a c fs nx cp sg _ (hv.d AX) s hl r).rtn λg O=>?_;obtain⟨j,z⟩:=Aw O);refine bodyPost_ret (v:=C6.ad.val none 0) (by simp[results,results62,go_sem,j,C6.val,C6.ad]) rfl ⟨⟨none,0,rfl,λi f hf=>Nt,yk _⟩,?_⟩;have l:Bw w g:=AX.thn O
 rotate_left
 focus
  rw[x,YJ]at o;go_enter func62,ntmps62;go_wp2_with (first|(go_at_call 115;refine(JT a c fs nx cp sg _ (hv.d AX) s hl r).rtn λg O=>?_;obtain⟨j,z⟩:=Aw O;have m:Bw w g:=(AX.thn O);have A:w.heap.size+1<g.heap.size:=yg qe O.size)|(go_at_call 117;refine(OM sa q vs _ (t.d m) y C).rtn λu p=>?_;obtain⟨B,D⟩:=Aw p)|fail);refine bodyPost_ret (v:=C6.ad.val none 0) (by simp[results,results62,go_sem,j,B,A,C6.val,C6.ad]) rfl ⟨⟨none,0,rfl,λi f hf=>Nt,yk _⟩,?_⟩;have l:Bw w u:=m.thn p
 rotate_left
 all_goals
  exact(((((l.setCell qe _).setCell qe _).setCell qe _).setCell qe _).setCell qe _).setCell qe _
def nr(h:P:=by rw[HM.o,HE.o];exact⟨⟨a2,c2,rfl,(aF.o.kept (λb hz _=>af.o.block b (by omega))).j (λb hz=>by omega),ah.o⟩,aC.c (af.o.d (by omega))⟩):=h
def zop(a c fs nx cp sg tag sa sc vs w)(hv:Bz w a fs)(aK:Bt w sa vs)(hc:fs.length<=c)(hl:fs.length<=1048576)(hs:∀f∈fs,AJ f)(aZ:vs.length<=1048576)(bh:∀v∈vs,v.J.size<=maxLen)(Z:B_ fs nx cp sg=true)(a0:C4 vs=true) :
  Ca 62 #[.agg #[.slice a fs.length c,I6 nx,I6 cp,.bool sg],I6 tag,.slice sa vs.length sc] w λe w'=>
   (∃a' c',e=.returned ((BP fs nx cp sg tag vs).val a' c')/\DT (λb=>w.heap.size<=b) w' a' (BP fs nx cp sg tag vs).fs/\(BP fs nx cp sg tag vs).fs.length<=c')/\Bw w w':=by
 have B:∀f∈fs,f.s.length<=1048576:=λf A=>(hs f A).2.1;obtain⟨n1,n2,n3,n4,n5⟩:=Tk Z;go_enter func62,ntmps62;go_wp2_with (first|(go_at_call 115;refine(JT a c fs nx cp sg _ (hv.d AX) hc hl hs).rtn λw0 g=>?_;obtain⟨bi,bf⟩:=Aw g;have bc:Bw w w0:=(AX.thn g);have aT:w.heap.size+1<w0.heap.size:=yg qe g.size;have aQ:w.heap.size<w0.heap.size:=qd)|(go_at_call 117;refine(OM sa sc vs _ (aK.d bc) aZ bh).rtn λD r=>?_;obtain⟨bd,bg⟩:=Aw r)|fail);have a7:Bw w D:=bc.thn r;have bt:w.heap.size+1<D.heap.size:=yg aT r.size;obtain⟨R,hR,M⟩:∃R:Array Value,D.heap[w.heap.size+1]?=some (.cells R 87 (0,0))/\R.size=6:=⟨_,(r.block _ aT).c ((g.block _ qe).c (EA _ _ _ qe)),rfl⟩
 have aW:D.heap[w.heap.size]?=some (.cells (JX a fs.length c nx cp sg).toArray 27 (0,0)):=(r.block _ aQ).c ((g.block _ qf).c ((yS _ _ _ qe).c (EA _ _ _ rfl)));clear bi bf bd bg;refine(Tf a c fs nx cp sg D (hv.d a7) hl B).j ?_;rintro e m ⟨⟨a2,c2,bz,rfl,aL⟩,C⟩;obtain⟨a5,a8⟩:=Ah (Du aW C) (Du hR C);have I:Bw w m:=a7.thn C;have bv:=C.size;obtain⟨aY,ah⟩:=Ah aL.on (L_ aL.Q);clear aW hR g r C aL;go_wp2_with (first|(refine C7 qi 27 (.tmp 7) (.tmp 21) qi m.heap.size (JX a2 fs.length c2 nx cp sg) qi qi _ 27 (EA _ _ _ rfl) qi UI (io _ _ _ _ _ _) ?_;intro W aJ E;have ao:=Aa (Sn a5.o E.o);obtain⟨q0,q1,q2,q3⟩:=IL ao.o)|fail);have aI:=DM E.o;have br:=Vt E.o;have Y:Bw w W:=I.thn aI;obtain⟨ay,au⟩:=Ah (Sn a8.o E.o) (aY.o.kept (w':=W) (λb _ aO=>aI.block b aO));obtain⟨K,p1,L,p3⟩:=IL aJ.o;have N:=hv.d Y;have O:=Xy a c fs tag W N hl;clear E a5 a8 aY aI
 cases k:AD tag fs with
 |none=>
  have HE:=Aa (S9 (tag:=tag) Z a0 k);rw[k]at O;refine O.j ?_;clear O k;rintro e n ⟨rfl,aN⟩;have ax:=aN.y;subst ax;go_wp2_with (first|(refine C7 qi 87 (.tmp 6) (.tmp 29) qi (w.heap.size+1) (C6.cells ⟨fs,nx,cp,sg,5,0⟩ a2 c2) qi qi R 87 ay.o M GS (C6.one _ _ _) ?_;intro G aq af)|fail)
  try go_frame
  refine bodyPost_ret (v:=C6.val ⟨fs,nx,cp,sg,5,0⟩ a2 c2) Z0 rfl ?_;rw[HE.o];exact⟨⟨a2,c2,rfl,(au.o.kept (λb hz _=>af.o.block b qd)).j (λb hz=>qd),ah.o⟩,Y.c (af.o.d qd)⟩
 |some i=>
  have bo:=Ot k;obtain⟨f,A⟩:=Ba bo;obtain⟨HM,bq⟩:=Ah (Ti (tag:=tag) Z a0 k A) (XT (Qr Z) k);obtain⟨b,o,rfl,c0,c1,_⟩:=N i f A;rw[k]at O;refine O.j ?_;clear O k A c0;rintro e n ⟨rfl,aN⟩;have ax:=aN.y;subst ax;dsimp only[Pp];go_wp2_with fail;refine(lV (some ⟨b,o,none⟩) c fs nx cp sg tag f.z sa sc vs W N (aK.d Y) hl B).rtn λn l=>?_;obtain⟨a3,aG,U,aF⟩:=Bn (Du ao.o l) (Du aJ.o l) (Du ay.o l) (au.o.kept (w':=n) (λb _ aO=>l.block b aO));have aC:Bw w n:=Y.thn l;have bA:=l.size;clear q0 q1 q2 q3 K p1 L p3;obtain⟨q0,q1,q2,q3⟩:=IL a3.o;obtain⟨K,p1,L,p3⟩:=IL aG.o;clear ao ay au aJ l hv hs c1 N;generalize x:EK sg tag f.z vs fs=T;by_cases ht:0<T
  .have HE:=Aa (lL (nx:=nx) (cp:=cp) (i:=i) x ht);clear x;go_wp2_with (first|(refine C7 qi 87 (.tmp 6) (.tmp 46) qi (w.heap.size+1) (C6.cells ⟨fs,nx,cp,sg,2,T⟩ a2 c2) qi qi R 87 U.o M GS (C6.one _ _ _) ?_;intro G aq af)|fail)
   try go_frame
   refine bodyPost_ret (v:=C6.val ⟨fs,nx,cp,sg,2,T⟩ a2 c2) Z0 rfl ?_;exact nr
  by_cases H:1000000<nx
  .have HE:=Aa (lx (cp:=cp) (i:=i) x ht H);clear x;go_wp2_with (first|(refine C7 qi 87 (.tmp 6) (.tmp 52) qi (w.heap.size+1) (C6.cells ⟨fs,nx,cp,sg,4,0⟩ a2 c2) qi qi R 87 U.o M GS (C6.one _ _ _) ?_;intro G aq af)|fail)
   try go_frame
   refine bodyPost_ret (v:=C6.val ⟨fs,nx,cp,sg,4,0⟩ a2 c2) Z0 rfl ?_;exact nr
  have HE:=Aa (kD (cp:=cp) (i:=i) x ht H);clear x;have aH:=nG _ a2 c2 fs tag n aF.o hl;rw[bq.o]at aH;go_wp2_with fail;refine aH.j ?_;rintro e G ⟨⟨a4,c4,bp,rfl,aS⟩,q⟩;obtain⟨a9,bl,aR⟩:=AA (aS.dF q) (Du U.o q) (Du aG.o q);have bw:∀j,G.frozen? ⟨m.heap.size,j,none⟩=false:=λj=>by simp[World.frozen?,aR.o]
  have bn:Bw w G:=aC.thn q;have bu:=q.size;have bk:(fs.eraseIdx i).length<=1048576:=yh (by rw[KA];split<;>omega) hl;clear q0 q1 q2 q3 K p1 L p3 aH aS q aF U aG a3;obtain⟨K,p1,L,p3⟩:=IL aR.o;go_wp2_with fail;have aU:=λu=>bn.setCell (p:=⟨m.heap.size,0,none⟩) I.size u;refine(kf a4 c4 (fs.eraseIdx i) bp nx cp sg f.z sa sc vs _ n.heap.size _ (a9.o.kept ?_) (λb t=>?_) (aK.d (aU _)) bk aZ ?_ qd qd).j ?_
  .intro b t;refine yE _ _ _ _ ?_;show b≠m.heap.size;rcases t with t|t
   .omega
   have:=(a9.o.Q.lt b t).1;omega
  .have:=t.2;simp;omega
  .simp;omega
  rintro e w6 ⟨⟨a6,c6,rfl,aX,aM⟩,aV⟩;have bm:=Aa ((aV.block (w.heap.size+1) qd).c ((yE _ ⟨m.heap.size,0,none⟩ _ _ (by show w.heap.size+1≠m.heap.size;omega)).c bl.o));go_wp2_with (first|(refine C7 qi 87 (.tmp 6) (.tmp 61) qi (w.heap.size+1) (C6.cells ⟨fs.eraseIdx i++[⟨nx,f.z,vs⟩],nx+1,cp,sg,0,nx⟩ a6 c6) qi qi R 87 bm.o M GS (C6.one _ _ _) ?_;intro w7 bj aP)|fail)
  try go_frame
  refine bodyPost_ret (v:=C6.val ⟨fs.eraseIdx i++[⟨nx,f.z,vs⟩],nx+1,cp,sg,0,nx⟩ a6 c6) (by simp[results,results62,asAddr,C6.load bj.o]) rfl ?_;rw[HM.o,HE.o];refine⟨⟨a6,c6,rfl,?_,by rw[yP];exact aM⟩,((aU _).c (aV.j (by have:=aC.size;omega))).c (aP.o.d qd)⟩;exact(aX.kept (λb hz _=>aP.o.block b Ug)).j (λb hz=>Ug)
def zlx(a c fs nx cp sg tag sa d vs w)(hv:Bz w a fs)(m:Bt w sa vs)(l:fs.length<=c)(hl:fs.length<=1048576)(j:∀f∈fs,AJ f)(i:vs.length<=1048576)(O:∀v∈vs,v.J.size<=maxLen) :
  Ca 62 #[.agg #[.slice a fs.length c,I6 nx,I6 cp,.bool sg],I6 tag,.slice sa vs.length d] w λe w'=>
   (∃g k,e=.returned ((BP fs nx cp sg tag vs).val g k)/\DT (λb=>w.heap.size<=b) w' g (BP fs nx cp sg tag vs).fs/\(BP fs nx cp sg tag vs).fs.length<=k)/\Bw w w':=by
 cases h:(B_ fs nx cp sg&&C4 vs)
 .rw[SD h];exact zmi a c fs nx cp sg tag sa d vs w hv m l hl j i O h
 simp only[yi]at h;exact zop a c fs nx cp sg tag sa d vs w hv m l hl j i O h.1 h.2
end
end Go.Proofs.YtikojfajahnhgaaGreat
