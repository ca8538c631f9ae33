import Derived.Test.YtikojfajahnhgaaGreatKav
set_option linter.all false
set_option maxHeartbeats 12800000
set_option maxRecDepth 100000
namespace Go.Proofs.YtikojfajahnhgaaGreat
attribute [local simp] At I6 Pn mzI
attribute [local go_sem] At I6 Pn
open Go.RowKit Go.Proofs.Tryz
section
attribute [local go_sem ↓] wp_at_zero wp_at_succ
def zV:V:=(0,0,ByteArray.empty)
def NC(vs:List V):List V:=vs++List.replicate (6-vs.length) zV
def IJ(cls:ByteArray)(n:Nat)(vs:List V):List Value:=.string cls::.int .i64 n::vs.flatMap V.cells
def DW(f:F):List Value:=IJ f.ak f.ad.length (NC f.ad)
def MN(vs:List V):(vs.flatMap V.cells).length=vs.length*3:=by
 induction vs with
 |nil=>rfl
 |cons v r O=>simp[O,V.cells];omega
def Sc(vs:List V):∀x∈vs.flatMap V.cells,x.oneCell'=true:=by
 intro x a;obtain⟨v,_,hv⟩:=Yk.1 a;simp[V.cells]at hv;rcases hv with rfl|rfl|rfl<;>rfl
def PI(a n vs):(IJ a n vs).length=vs.length*3+2:=by
 show(vs.flatMap V.cells).length+1+1=_;rw[MN]
def Vj(b n vs):∀x∈IJ b n vs,x.oneCell'=true:=by
 intro x a;simp only[IJ,yO]at a;rcases a with rfl|rfl|a
 .rfl
 .rfl
 exact Sc vs x a
def Pv(vs)(h:vs.length<=6):(NC vs).length=6:=by simp[NC];omega
def wR(a n vs)(h:vs.length<=6) :
  (IJ a n (List.replicate 6 zV)).take 2++(vs.flatMap V.cells++(IJ a n (List.replicate 6 zV)).drop (2+(vs.flatMap V.cells).length))=IJ a n (NC vs):=by
 have e:∀k,k<=6->((List.replicate 6 zV).flatMap V.cells).drop (k*3)=(List.replicate (6-k) zV).flatMap V.cells:=by
  exact nr
 rw[MN];unfold IJ NC;rw[Yu,<-e vs.length h,show 2+vs.length*3=vs.length*3+1+1 by omega];rfl
def gi(vs:List V)(j x)(h:(vs.flatMap V.cells)[j]?=some x):∃v,vs[j/3]?=some v/\v.cells[j%3]?=some x:=by
 induction vs generalizing j with
 |nil=>simp at h
 |cons v r O=>
  rw[yE]at h;by_cases hj:j<3
  .rw[yB (by simpa[V.cells] using hj)]at h;refine⟨v,?_,?_⟩
   .rw[show j/3=0 by omega];rfl
   rwa [show j%3=j by omega]
  rw[yF (by simp[V.cells];omega)]at h;obtain⟨u,a,b⟩:=O (j-v.cells.length) h;simp only[V.cells,yH,YV]at a b;refine⟨u,?_,?_⟩
  .rw[show j/3=(j-(0+1+1+1))/3+1 by omega];exact a
  rwa [show j%3=(j-(0+1+1+1))%3 by omega]
def Bj.flat{w c vs}(h:Bj w (some c) vs)(j x)(f:(vs.flatMap V.cells)[j]?=some x):w.cell? (c.add j)=some x:=by
 obtain⟨v,hv,a⟩:=gi vs j x f;obtain⟨b,o,d,Y,i,g⟩:=h _ v hv;cases d;have O:(⟨b,o,none⟩:Addr).add j=⟨b,o+j,none⟩:=YZ b o j;rw[O];rcases(show j%3=0∨j%3=1∨j%3=2 by omega) with e|e|e<;>rw[e]at a<;>simp[V.cells]at a<;>subst a
 .rw[show o+j=o+j/3*3 by omega];exact Y
 .rw[show o+j=o+j/3*3+1 by omega];exact i
 rw[show o+j=o+j/3*3+2 by omega];exact g
def Bj.nil{w vs}(h:Bj w none vs):vs.length=0:=by
 cases vs with
 |nil=>rfl
 |cons v r=>
  obtain⟨b,o,a,_⟩:=h 0 v rfl;cases a
def Ug:(prog.info? 382).map (·.size)=some 20:=qf
def px:(prog.info? 187).map (·.size)=some 3:=qf
def Ux(f a c w)(hv:Bj w a f.ad)(hl:f.ad.length<=6) :
  Ca 257 #[.agg #[.int .i64 f.tag,.string f.ak,.slice a f.ad.length c]] w λe w'=>
   e=.returned (.agg (DW f).toArray)/\Bw w w':=by
 go_enter func257,ntmps257;go_wp2_with (refine EH qi 382 (.tmp 3) (.tmp 9) qi (w.heap.size+1+1) (IJ f.ak f.ad.length (List.replicate 6 zV)) qi qi _ 382 (Eu _ _ _ qe) qi (by rw[PI];exact Ug) (Vj _ _ _) ?_;intro g s n)
 go_frame
 have i:=n.o;have A:g.cell? ⟨w.heap.size,2,none⟩=some (.slice a f.ad.length c):=by rw[i.cell qg];simp[go_sem]
 obtain⟨b,q,p⟩:∃b:Array Value,g.heap[w.heap.size+1]?=some (.cells b 382 (0,0))/\b.size=20:=
  ⟨_,(i.block _ qd).j ((yV _ _ _ qe).j (Eu _ _ _ qe)),rfl⟩
 have r:Hid (g.heap[w.heap.size+1]?=some (.cells b 382 (0,0))):=q;have C:Hid (b.size=20):=p;clear q p;have y:Bw w g:=((Af.alloc qe _).alloc qg _).j (i.J qd);have t:=hv.J y;have z:g.heap.size=w.heap.size+1+1+1:=by rw[i.size];simp
 have M:Hid (g.heap.size=w.heap.size+1+1+1):=z;clear z n i hv;have O:Nat.min f.ad.length 6=f.ad.length:=by simp[Nat.min_def];omega
 have G:Hid (Nat.min f.ad.length 6=f.ad.length):=O;clear O
 go_region_held3 (λw'=>w'.cell? ⟨w.heap.size,2,none⟩=some (.slice a f.ad.length c)) ((first | (simp[*];done) | (rw[Y.o.cell qg];simp[*])))
  ((refine mM qi (.tmp 11) (.tmp 13) 38 38 qi 187 3 underlying38 px (w.heap.size+1+1) 2 6 6 a f.ad.length c qi qi _ 382 s.o (f.ad.flatMap V.cells) (by rw[G.o,MN]) (λe=>Bj.nil (e▸t)) (λN e=>Bj.flat (e▸t)) (by rw[MN];simp[PI];omega) (Sc _) ?_;intro k m Y))
 have x:k.heap[w.heap.size+1+1]?=some (.cells (DW f).toArray 382 (0,0)):=by
  have:=m.o;rw[List.toList_toArray,wR _ _ _ hl]at this;exact this
 have l:=Y.o;have u:k.heap[w.heap.size+1]?=some (.cells b 382 (0,0)):=(l.block _ qd).j r.o;have d:(DW f).length=20:=by unfold DW;rw[PI,Pv _ hl]
 have H:Bw w k:=y.drew.j (l.J qd);have I:Hid (k.heap[w.heap.size+1+1]?=some (.cells (DW f).toArray 382 (0,0))):=x;have K:Hid (k.heap[w.heap.size+1]?=some (.cells b 382 (0,0))):=u;have HL:Hid ((DW f).length=20):=d;clear m Y l x u d r s A;go_wp2_with (first|(refine Xv qi 382 (.tmp 3) qi (w.heap.size+1+1) (DW f) qi 382 (0,0) I.o _ underlying382 qi Tp ?_)|(refine EH qi 382 (.tmp 2) (.tmp 15) qi (w.heap.size+1) (DW f) qi qi b 382 K.o (by rw[HL.o];exact C.o) Tp (Vj _ _ _) ?_;intro D L B));have E:=run_loadVar_mid (P:=prog) D (w.heap.size+1) 0 382 (DW f) _ (L9 L.o) underlying382 rfl Tp
 go_frame
 exact bodyPost_ret (v:=.agg (DW f).toArray) (by simp[results,results257,asAddr,E]) rfl ⟨rfl,H.j (B.o.J qd)⟩
end
section
open Go.Maps
def Zb:(382:TypeId)<prog.types.size:=of_decide_eq_true qf
def ZT:(match prog.underlying 382 with|some (.array _ _)|some (.struct _)=>true|_=>false)=true:=qf
def pu:prog.keyType 382=true:=qf
def Lw:Keyed prog 382:=Keyed.of_law (deep_law_laid MC (m:=5) qd Zb qf ZT)
def d_:prog.cellsOf 382=20:=qf
def ZW:prog.cellsOf 380=18:=qf
def pk:C8 zV:=⟨qh,qh,qh⟩
def Zz(d a b c e f g)(O:C8 a)(l:C8 b)(j:C8 c)(m:C8 e)(n:C8 f)(i:C8 g):(prog.keyLits (d+3) 380 ([a,b,c,e,f,g].flatMap V.cells)).isSome=true:=by
 have k:=λv h=>ZN d v h;unfold Program.keyLits;rw[underlying380];simp only[ZW,UG];rw[if_pos qi];simp only[show List.range 6=[0,1,2,3,4,5] by rfl,Kz,KJ];simp only[V.cells,yE,YO,Ye,Yj,Nat.zero_mul,KS,WQ,YG,Y7,Ws,k a O,k b l,k c j,k e m,k f n,k g i];rfl
def Zy(d a n)(e:a.size<=maxLen)(f:(Lit.int .i64 n).wf=true)(L)(c:L.length=18)(b:(prog.keyLits (d+1) 380 L).isSome=true) :
  (prog.keyLits (d+2) 382 (.string a::.int .i64 n::L)).isSome=true:=by
 obtain⟨l,hl⟩:=WN.1 b;have hS:prog.keyLits (d+1) 9 [.string a]=some [.string a.data.toList]:=by simp[Program.keyLits,underlying9,e]
 have i:prog.keyLits (d+1) 3 [.int .i64 n]=some [.int .i64 n]:=by simp[Program.keyLits,underlying3,f]
 have g:L.take 18=L:=yu qd;unfold Program.keyLits;rw[underlying382];simp only[d_];rw[if_pos ⟨by simp[c],Ns⟩];simp only[Kz,KJ,JP,GZ,ZW,WQ,YG,Y7,Ws,hS,i,g,hl];rfl
def sZ(d n)(k:d.size<=maxLen)(p:n<=6)(vs)(hl:vs.length=6)(hv:∀v∈vs,C8 v):∃l,keyOf prog 382 (.agg (IJ d n vs).toArray)=some l:=by
 match vs,hl with
 |[a,b,c,e,f,g],_=>
  have i:(Lit.int .i64 (n:Int)).wf=true:=WalkArith.wf_i64 qd;have m:=Zz (prog.types.size-3) a b c e f g (hv _ qe) (hv _ qe) (hv _ qe) (hv _ qe) (hv _ qe) (hv _ qe);have q:3<=prog.types.size:=of_decide_eq_true qf;have j:=Zy (prog.types.size-3+2) d n k i _ qi m;rw[show prog.types.size-3+2+2=prog.types.size+1 by omega]at j;have O:(Value.agg (IJ d n [a,b,c,e,f,g]).toArray).formed prog 382=true:=by
   simp[Value.formed,underlying382,d_,PI]
  unfold keyOf;rw[underlying382];simp only[pu,O,KK,if_true];obtain⟨o,Y⟩:=WN.1 j;show∃l,(prog.keyLits (prog.types.size+1) 382 (.string d::I6 n::[a,b,c,e,f,g].flatMap V.cells)).map _=some l;rw[Y];exact⟨_,rfl⟩
def iz:∀(a vs:List V),a.length=vs.length->a.flatMap V.cells=vs.flatMap V.cells->a=vs
 |[],[],_,_=>rfl
 |[],_::_,h,_=>by simp at h
 |_::_,[],h,_=>by simp at h
 |u::a,v::vs,h,e=>by
  simp only[yE,V.cells,Ye,Yj,Yh,KY,Km,true_and]at e
  obtain⟨c,b,d,g⟩:=e
  have f:=iz a vs qq g
  rw[f,V.same c b d]
def Gg(f:F):Prop:=f.ak.size<=maxLen/\f.ad.length<=6/\∀v∈f.ad,C8 v
def rl{f}(h:Gg f):∃l,keyOf prog 382 (.agg (DW f).toArray)=some l:=by
 obtain⟨c,a,b⟩:=h;refine sZ f.ak f.ad.length c a (NC f.ad) (Pv _ a) ?_;intro v hv;rcases yr.1 hv with hv|hv
 .exact b v hv
 rw[WO hv];exact pk
def KL(kl:F->Lit):Prop:=∀f,Gg f->keyOf prog 382 (.agg (DW f).toArray)=some (kl f)
def KL.bV:∃a,KL a:=
 ⟨λf=>(keyOf prog 382 (.agg (DW f).toArray)).getD (.bool false),λf h=>by
  obtain⟨l,hl⟩:=rl h
  simp only[hl,YY]⟩
def KL.cO{a}(K:KL a){f g}(i:Gg f)(c:Gg g)(h:Bn f=Bn g):a f=a g:=by
 have b:=K f i;have d:=K g c;rw[Py]at h;have e:DW f=DW g:=by unfold DW;rw[h.1,h.2]
 rw[e,d]at b;exact(Option.some.inj b).ai
def zlv{a}(K:KL a){f g}(c:Gg f)(b:Gg g)(h:a f=a g):Bn f=Bn g:=by
 have e:=Lw.inj (K f c) (h▸K g b);simp only[Value.agg.injEq]at e;have O:DW f=DW g:=by simpa using congrArg Array.toList e
 unfold DW IJ at O;simp only[Yh,Km,KY,true_and]at O;obtain⟨d,m,i⟩:=O;have l:=iz _ _ (by rw[Pv _ c.2.1,Pv _ b.2.1]) i;have j:f.ad.length=g.ad.length:=qd;have k:f.ad=g.ad:=by
  have:=congrArg (List.take f.ad.length) l;unfold NC at this;rw[List.take_left,j,List.take_left]at this;exact this
 exact Py.2 ⟨d,k⟩
def UI{a}(K:KL a){f g}(b:Gg f)(c:Gg g):a f=a g↔Bn f=Bn g:=
 ⟨zlv K b c,K.cO b c⟩
structure Ge(kl:F->Lit) (fs:List F) (k:Nat) (D:DataW Unit):Prop where
 le:Maps.size D<=k
 iff:Maps.size D=k↔((fs.take k).map Bn).Nodup
 has:∀g,Gg g->(Maps.has D (kl g)=true↔Bn g∈(fs.take k).map Bn)
def Ge.start(a fs):Ge a fs 0 (.map []):=
 ⟨yX _,by simp[Maps.size],λg _=>by simp[Maps.has]⟩
def Ge.step{i}(K:KL i){fs k D f}(h:Ge i fs k D)(q:Tidy D)(t:fs[k]?=some f)(c:Gg f)(d):Ge i fs (k+1) (D.put (i f) d):=by
 have Y:WideAt.IsKeyLit (i f):=Lw.key (K f c);have o:=h.has f c;have O:(fs.take (k+1)).map Bn=(fs.take k).map Bn++[Bn f]:=mD Bn fs k f t;have j:=size_put (k:=i f) q d;have w:=h.le;constructor
 .rw[j];split<;>omega
 .rw[O,j,yP];by_cases l:Bn f∈(fs.take k).map Bn
  .rw[if_pos (o.2 l)];constructor
   .intro e;omega
   rintro⟨_,_,s⟩;exact absurd rfl (s _ l _ qe)
  rw[if_neg (λe=>l (o.1 e))];constructor
  .intro e;refine⟨h.iff.1 qd,qe,?_⟩;intro a u b p;simp only[yv]at p;rintro rfl;exact l (p▸u)
  rintro⟨v,_,_⟩;have:=h.iff.2 v;omega
 intro g m;rw[O,yr,yv];by_cases e:i g=i f
 .rw[e,has_put_same q.isMap Y];simp[(UI K m c).1 e]
 rw[has_put_other e,h.has g m];have n:Bn g≠Bn f:=λr=>e ((UI K m c).2 r);simp[n]
end
section
attribute [local go_sem ↓] wp_at_zero wp_at_succ
def tC(a c es S e w){q}(hv:BP q w a es)(he:es[S.length]?=some e)(af:0<=e.op)(n:e.op<256)(f:e.kind=2)(Y:DY e.op=false) :
  Ca 234 #[.slice a es.length c,I6 (S.length:Int)] w λe' w'=>e'=.returned (.bool (Bv S e).isSome)/\Bw w w':=by
 have p:S.length<es.length:=(yf.1 he).1;have hv0:=hv;obtain⟨b,o,rfl,m,c0,c1,c2,c3,c4,c5,c6,c7⟩:=hv.get he;clear m hv;have O:(Bv S e).isSome=(if CN S e then Ia S e.a e.b else none).isSome:=by simp[Bv,f]
 have B3:∀o g d,Bw w (((w.alloc o).drew.alloc g).alloc d):=λo g d=>((Ez o).drew.alloc qe _).alloc qg _;have r:=VA e.op;obtain⟨hIs,hZ⟩:=Ak (Uw e.op af n) (λw=>MU e.val w);rw[f]at c0;rw[show(Bv S e).isSome=false by rw[O];simp[CN,Y]];rw[Y]at hIs;clear hv0 O;cases h1:(e.op==0)
 .exact J8
 cases h2:(e.a==0)
 .exact J8
 cases h3:(e.b==0)<;>exact J8
def gE(a c es S e w){q}(hv:BP q w a es)(he:es[S.length]?=some e)(p:0<=e.op)(t:e.op<256)(g:e.kind=2)(af:DY e.op=true)(Y:(e.var.toList.isEmpty&&Cr e.val)=false) :
  Ca 234 #[.slice a es.length c,I6 (S.length:Int)] w λe' w'=>e'=.returned (.bool (Bv S e).isSome)/\Bw w w':=by
 have u:S.length<es.length:=(yf.1 he).1;have hv0:=hv;obtain⟨b,o,rfl,r,c0,c1,c2,c3,c4,c5,c6,c7⟩:=hv.get he;clear r hv;have O:(Bv S e).isSome=(if CN S e then Ia S e.a e.b else none).isSome:=by simp[Bv,g]
 have B3:∀o n f,Bw w (((w.alloc o).drew.alloc n).alloc f):=λo n f=>((Ez o).drew.alloc qe _).alloc qg _;have x:=VA e.op;obtain⟨hIs,hZ⟩:=Ak (Uw e.op p t) (λw=>MU e.val w);rw[g]at c0;have h1:(e.op==0)=false:=by
  cases h:(e.op==0)
  .rfl
  have s:e.op=0:=qq;rw[s]at af;exact absurd af qh
 rw[af]at hIs;cases m:e.var.toList.isEmpty
 .rw[show(Bv S e).isSome=false by rw[O];simp[CN,BT,m]];clear hv0 O Y;exact J8
 have d:Cr e.val=false:=by simpa[m] using Y
 rw[show(Bv S e).isSome=false by rw[O];simp[CN,d]];rw[d]at hZ;clear hv0 O Y;exact J8
end
def Be(fs:List F)(xs:List Value):List Value:=(fs.zip xs).flatMap λp=>A_ p.1 p.2
def AL.ai{x y}(h:AL x y):AL y x:=λg b a=>h g a b
def MP{w:World}{base e m a n c xs}(h:w.ownsRow base e m (.slice a n c) n xs):n<=c:=by
 rcases h.2 with⟨_,d⟩|⟨g,cap,O,hv,_,_,b,_⟩
 .omega
 cases hv
 exact b
structure Bp(w:World) (base:Nat) (v:Value) (n:Nat) (fs:List F) (xs:List Value):Prop where
 num:n=fs.length
 len:xs.length=fs.length
 own:w.ownsRow base 145 3 v n (Be fs xs)
 each:∀(i:Nat)(f:F)(x:Value),fs[i]?=some f->xs[i]?=some x->(∃a c,x=.slice a f.ad.length c)/\w.ownsRow base 187 3 x f.ad.length (f.ad.flatMap V.cells)
 apart:∀x∈xs,AL v x
 pair:xs.Pairwise AL
def Pc(v:Value)(xs:List Value)(g:Nat):Prop:=v.ownBlock=some g∨∃x∈xs,x.ownBlock=some g
def Bp.bL{w base v n fs xs}(h:Bp w base v n fs xs){x}(c:x∈xs):∃f∈fs,w.ownsRow base 187 3 x f.ad.length (f.ad.flatMap V.cells):=by
 obtain⟨i,b,rfl⟩:=Wt c;have a:i<fs.length:=by rw[<-h.len];exact b
 exact⟨fs[i],WZ a,(h.each i _ _ (yK a) (yK b)).2⟩
def Bp.range{w base v n fs xs}(h:Bp w base v n fs xs){g}(a:Pc v xs g):base<=g/\g<w.heap.size:=by
 rcases a with a|⟨x,b,a⟩
 .exact h.own.lt g a
 obtain⟨f,_,c⟩:=h.bL b;exact c.lt g a
def Bp.kept{w w' base v n fs xs}(h:Bp w base v n fs xs)(c:∀g,Pc v xs g->w'.heap[g]?=w.heap[g]?):Bp w' base v n fs xs:=
 ⟨h.num,h.len,BZ h.own (λg a=>c g (.inl a)),λi f x d b=>⟨(h.each i f x d b).1,BZ (h.each i f x d b).2 (λg a=>c g (.inr ⟨x,yd b,a⟩))⟩,h.apart,h.pair⟩
def Bp.J{w w' base v n fs xs}(h:Bp w base v n fs xs)(b:Bw w w'):Bp w' base v n fs xs:=
 h.kept λg a=>b.block g (h.range a).2
def Bp.lower{w base base' v n fs xs}(h:Bp w base v n fs xs)(a:base'<=base):Bp w base' v n fs xs:=
 ⟨h.num,h.len,DT h.own a,λi f x b c=>⟨(h.each i f x b c).1,DT (h.each i f x b c).2 a⟩,h.apart,h.pair⟩
def Bp.set{w base v n fs xs}(h:Bp w base v n fs xs){p}(b:p.block<base)(u):Bp (w.setCell p u) base v n fs xs:=
 h.kept λg a=>Yb _ _ _ _ (by have:=(h.range a).1;omega)
def Bp.dc{w base v n fs xs}(h:Bp w base v n fs xs)(o):Bp (w.alloc o) base v n fs xs:=
 h.J Af
def Bp.nil(w base):Bp w base (.slice none 0 0) 0 [] []:=
 ⟨rfl,rfl,y9 _ _ _ _,λi f x hf=>Mi,λx hx=>qN,List.Pairwise.nil⟩
def Ov:∀(fs:List F)(xs:List Value),xs.length=fs.length->∀(i:Nat)(f:F)(x:Value),fs[i]?=some f->xs[i]?=some x->∀j,j<3->(Be fs xs)[i*3+j]?=(A_ f x)[j]?
 |[],_,_,i,f,x,hf,_,_,_=>by simp at hf
 |g::fs,[],h,_,_,_,_,_,_,_=>by simp at h
 |g::fs,y::xs,h,i,f,x,hf,hx,j,hj=>by
  unfold Be
  rw[List.zip_cons_cons,yE]
  cases i with
  |zero=>
   simp at hf hx
   subst hf
   subst hx
   rw[yB (by simpa[A_] using hj)]
   simp
  |succ i=>
   rw[yF (by simp[A_];omega)]
   have:=Ov fs xs qq i f x (by simpa using hf) (by simpa using hx) j hj
   unfold Be at this
   rw[<-this]
   congr 1
   simp[A_]
   omega
def VD:∀(fs:List F)(xs:List Value),xs.length=fs.length->(Be fs xs).length=fs.length*3
 |[],_,_=>by simp[Be]
 |_::_,[],h=>by simp at h
 |g::fs,y::xs,h=>by
  have:=VD fs xs qq
  unfold Be at this⊢
  rw[List.zip_cons_cons,yE,yR,this]
  simp[A_]
  omega
def zga(fs xs)(h:xs.length=fs.length)(f x):Be (fs++[f]) (xs++[x])=Be fs xs++A_ f x:=by
 unfold Be;rw[KX h.ai,Yu];simp
def Bj.owns{w base a c vs}(h:w.ownsRow base 187 3 (.slice a vs.length c) vs.length (vs.flatMap V.cells)):Bj w a vs:=by
 intro i v hv;have f:i<vs.length:=(yf.1 hv).1;have key:∀j x,j<3->v.cells[j]?=some x->(vs.flatMap V.cells)[i*3+j]?=some x:=by
  intro j x hj d;have b:i*3+j<(vs.flatMap V.cells).length:=by rw[MN];omega
  obtain⟨u,h1,h2⟩:=gi vs (i*3+j) _ (yK b);rw[show(i*3+j)/3=i by omega,hv]at h1;cases h1;rw[show(i*3+j)%3=j by omega,d]at h2;rw[yK b,h2]
 obtain⟨g,rfl,_,h0,_⟩:=CC h (key 0 _ qd rfl);obtain⟨k,Y,_,h1,_⟩:=CC h (key 1 _ qd rfl);obtain⟨e,O,_,h2,_⟩:=CC h (key 2 _ qd rfl);cases Y;cases O;exact⟨g,0,rfl,qC,qt,qv⟩
def Bp.at{w base a n c fs xs}(h:Bp w base (.slice a n c) n fs xs):BC w a fs:=by
 intro i f b;have l:i<fs.length:=(yf.1 b).1;have d:xs[i]?=some (xs[i]'(by rw[h.len];exact l)):=yK _;obtain⟨⟨m,o,e⟩,k⟩:=h.each i f _ b d;have key:=λj(hj:j<3)=>Ov fs xs h.len i f _ b d j hj;obtain⟨g,rfl,_,h0,_⟩:=CC h.own ((key 0 qd).j rfl);obtain⟨q,Y,_,h1,_⟩:=CC h.own ((key 1 qd).j rfl);obtain⟨p,O,_,h2,_⟩:=CC h.own ((key 2 qd).j rfl);cases Y;cases O;rw[e]at h2 k;exact⟨g,0,rfl,qC,qt,m,o,qv,Bj.owns k⟩
def Bp.snoc{w w' base v d n fs xs f x}(h:Bp w base v n fs xs)(l:(∃a c,x=.slice a f.ad.length c)/\w.ownsRow base 187 3 x f.ad.length (f.ad.flatMap V.cells))(o:AL v x)(r:∀y∈xs,AL y x)(ho:w'.ownsRow base 145 3 d (n+1) (Be fs xs++A_ f x))(q:w.grownBy w' v.ownBlock)(hl:d.ownBlock=v.ownBlock∨d.ownBlock=some w.heap.size):Bp w' base d (n+1) (fs++[f]) (xs++[x]):=by
 have m:∀y:Value,(y∈xs∨y=x)->∀g,y.ownBlock=some g->g<w.heap.size/\w'.heap[g]?=w.heap[g]?:=by
  intro y hy g O;have j:g<w.heap.size:=by
   rcases hy with hy|rfl
   .exact(h.range (.inr ⟨y,hy,O⟩)).2
   exact(l.2.lt g O).2
  refine⟨j,q.block g j ?_⟩;intro e;rcases hy with hy|rfl
  .exact h.apart y hy g e.ai O
  exact o g e.ai O
 have Y:∀y:Value,(y∈xs∨y=x)->AL d y:=by
  intro y hy g k O;rcases hl with hl|hl
  .rw[hl]at k;rcases hy with hy|rfl
   .exact h.apart y hy g k O
   exact o g k O
  rw[hl]at k;cases k;have:=(m y hy _ O).1;omega
 refine⟨by simp[h.num],by simp[h.len],Zf,?_,?_,?_⟩
 .intro i t y b hy;by_cases hi:i<fs.length
  .rw[yB hi]at b;rw[yB To]at hy;obtain⟨A,u⟩:=h.each i t y b hy;exact⟨A,BZ u (λg O=>(m y (.inl (yd hy)) g O).2)⟩
  have s:i<(fs++[f]).length:=(yf.1 b).1;simp at s;obtain rfl:i=fs.length:=qd;rw[yF AA]at b;rw[yF Zh,h.len]at hy;simp at b hy;subst b;subst hy;exact⟨l.1,BZ l.2 (λg O=>(m x (.inr rfl) g O).2)⟩
 .intro y hy;rcases yr.1 hy with hy|hy
  .exact Y y (.inl hy)
  exact Y y (.inr QA)
 rw[Yy];exact⟨h.pair,WR _ _,λy hy z p=>by
  simp at p;subst p;exact r y hy⟩
def Fx(Z:Nat->Prop)(w:World)(a:Option Addr)(vs:List V):Prop:=
 ∀ (i:Nat) (v:V),vs[i]?=some v->∃ b o,Z b/\a=some ⟨b,o,none⟩/\w.cell? ⟨b,o+i * 3,none⟩=some (.int .i64 v.kind) /\
  w.cell? ⟨b,o+i*3+1,none⟩=some (.int .i64 v.num)/\w.cell? ⟨b,o+i*3+2,none⟩=some (.string v.av)
def DD(Z:Nat->Prop)(w:World)(a:Option Addr)(fs:List F):Prop:=
 ∀ (i:Nat) (f:F),fs[i]?=some f->∃ b o,Z b/\a=some ⟨b,o,none⟩/\w.cell? ⟨b,o+i * 3,none⟩=some (.int .i64 f.tag) /\
  w.cell? ⟨b,o+i*3+1,none⟩=some (.string f.ak)/\∃a' c,w.cell? ⟨b,o+i*3+2,none⟩=some (.slice a' f.ad.length c)/\Fx Z w a' f.ad
def Fx.at{Z w a vs}(h:Fx Z w a vs):Bj w a vs:=λi v hv=>by
 obtain⟨b,o,_,h⟩:=h i v hv;exact⟨b,o,h⟩
def DD.at{Z w a fs}(h:DD Z w a fs):BC w a fs:=λi f l=>by
 obtain⟨b,o,_,m,g,e,k,c,j,d⟩:=h i f l;exact⟨b,o,m,g,e,k,c,j,d.at⟩
def Li{w w':World}{b o x}(c:w'.heap[b]?=w.heap[b]?)(h:w.cell? ⟨b,o,none⟩=some x):w'.cell? ⟨b,o,none⟩=some x:=by
 rw[<-h];exact y8 (a:=⟨b,o,none⟩) c
def Fx.kept{Z w w' a vs}(h:Fx Z w a vs)(g:∀b,Z b->b<w.heap.size->w'.heap[b]?=w.heap[b]?):Fx Z w' a vs:=λi v hv=>by
 obtain⟨b,o,O,e,c,f,d⟩:=h i v hv;have:=g b O (yZ w ⟨b,_,none⟩ c);exact⟨b,o,O,e,Li this c,Li this f,Li this d⟩
def DD.kept{Z w w' a fs}(h:DD Z w a fs)(e:∀b,Z b->b<w.heap.size->w'.heap[b]?=w.heap[b]?):DD Z w' a fs:=λi f k=>by
 obtain⟨b,o,O,m,d,g,j,c,n,l⟩:=h i f k;have:=e b O (yZ w ⟨b,_,none⟩ d);exact⟨b,o,O,m,Li this d,Li this g,j,c,Li this n,l.kept e⟩
def Fx.ac{Z Z' w a vs}(h:Fx Z w a vs)(Y:∀b,Z b->Z' b):Fx Z' w a vs:=λi v hv=>by
 obtain⟨b,o,O,h⟩:=h i v hv;exact⟨b,o,Y b O,h⟩
def DD.ac{Z Z' w a fs}(h:DD Z w a fs)(O:∀b,Z b->Z' b):DD Z' w a fs:=λi f j=>by
 obtain⟨b,o,Y,l,e,d,g,c,m,k⟩:=h i f j;exact⟨b,o,O b Y,l,e,d,g,c,m,k.ac O⟩
def Bj.on{w a vs}(h:Bj w a vs):Fx (λb=>b<w.heap.size) w a vs:=λi v hv=>by
 obtain⟨b,o,e,c,d⟩:=h i v hv;exact⟨b,o,yZ w ⟨b,_,none⟩ c,e,c,d⟩
def BC.on{w a fs}(h:BC w a fs):DD (λb=>b<w.heap.size) w a fs:=λi f l=>by
 obtain⟨b,o,m,d,g,k,c,j,e⟩:=h i f l;exact⟨b,o,yZ w ⟨b,_,none⟩ d,m,d,g,k,c,j,e.on⟩
def Fx.owns{w base a c vs}(h:w.ownsRow base 187 3 (.slice a vs.length c) vs.length (vs.flatMap V.cells)):Fx (λb=>base<=b/\b<w.heap.size) w a vs:=λi v hv=>by
 obtain⟨b,o,rfl,d,e⟩:=Bj.owns h i v hv;exact⟨b,o,h.lt b rfl,rfl,d,e⟩
def Bp.on{w base a n c fs xs}(h:Bp w base (.slice a n c) n fs xs):DD (λb=>base<=b/\b<w.heap.size) w a fs:=by
 intro i f d;have m:i<fs.length:=(yf.1 d).1;have k:xs[i]?=some (xs[i]'(by rw[h.len];exact m)):=yK _;obtain⟨⟨o,p,e⟩,l⟩:=h.each i f _ d k;have key:=λj(hj:j<3)=>Ov fs xs h.len i f _ d k j hj;obtain⟨g,rfl,q,h0,_⟩:=CC h.own ((key 0 qd).j rfl);obtain⟨s,Y,_,h1,_⟩:=CC h.own ((key 1 qd).j rfl);obtain⟨r,O,_,h2,_⟩:=CC h.own ((key 2 qd).j rfl);cases Y;cases O;rw[e]at h2 l;exact⟨g,0,h.own.lt g rfl,rfl,qC,qt,o,p,qv,Fx.owns l⟩
section
attribute [local go_sem ↓] wp_at_zero wp_at_succ
def jr{w w'}(h:w.grownBy w' none):Bw w w':=
 Aj.grown h AA (λk a=>by cases a)
def Sf{w:World}{base e size v n xs}(h:w.ownsRow base e size v n xs){p}(b:p.block<base)(u):(w.setCell p u).ownsRow base e size v n xs:=
 BZ h (λg a=>Yb _ _ _ _ (by have:=(h.lt g a).1;omega))
def ZU(w:World)(base:Nat)(x:Value)(vs:List V):Prop:=(∃a c,x=.slice a vs.length c)/\w.ownsRow base 187 3 x vs.length (vs.flatMap V.cells)
def lS(a c vs w)(hv:Bj w a vs)(hl:vs.length<=1048576) :
  Ca 178 #[.slice a vs.length c] w λe w'=>
   (∃b d,e=.returned (.slice b vs.length d)/\ZU w' w.heap.size (.slice b vs.length d) vs)/\Bw w w':=by
 go_enter func178,ntmps178;go_wp2_with (at_builtin;refine EU qi (.tmp 4) (.tmp 5) 38 qi w.heap.size 187 _ 3 32 underlying38 TU qi qd _ 0 [] qi (y9 _ _ _ _) a vs.length c qi (vs.flatMap V.cells) (MN _) (λe=>Bj.nil (e▸hv)) (λi e=>Bj.flat (e▸hv)) (Sc _) qm qd AA ?_;intro b d j g f Y);have O:=g.o;simp only[Yt,Yj]at O;go_ret;exact⟨⟨b,d,qe,⟨b,d,rfl⟩,O⟩,jr f.o⟩
def mT(f:F)(a c w)(hv:Bj w a f.ad)(hl:f.ad.length<=1048576) :
  Ca 259 #[.agg #[I6 f.tag,.string f.ak,.slice a f.ad.length c]] w λe w'=>
   (∃b d,e=.returned (.agg #[I6 f.tag,.string f.ak,.slice b f.ad.length d])/\ZU w' w.heap.size (.slice b f.ad.length d) f.ad)/\Bw w w':=by
 have l:∀o o',Bj ((w.alloc o).alloc o') a f.ad:=λo o'=>hv.J (Af.alloc qe _);have n:w.heap.size<w.heap.size+1+1:=qd;go_enter func259,ntmps259;go_wp2_with (at_builtin;refine EU qi _ (.tmp 4) 38 qi (w.heap.size+1+1) 187 _ 3 32 underlying38 TU qi qd _ 0 [] qi (y9 _ _ _ _) a f.ad.length c qi (f.ad.flatMap V.cells) (MN _) (λe=>Bj.nil (e▸hv)) (λr e=>Bj.flat (e▸l _ _)) (Sc _) qm qd qe ?_;intro b d i k g p;have O:=jr g.o;obtain⟨m,q⟩:=Ah O);have Y:=k.o;simp only[Yt,Yj]at Y;refine bodyPost_ret (v:=.agg #[I6 f.tag,.string f.ak,.slice b f.ad.length d]) (by simp[results,results259,go_sem,m]) rfl ⟨⟨b,d,rfl,⟨b,d,rfl⟩,?_⟩,?_⟩
 .exact DT (Sf (Sf (Sf (Sf Y qg _) qe _) qe _) qe _) qd
 have hB:Bw w i:=(Af.alloc qe _).j (O.ac qg);exact oH
def OP(f a n c):∀u∈A_ f (.slice a n c),u.oneCell'=true:=by
 intro u hu;simp[A_]at hu;rcases hu with rfl|rfl|rfl<;>rfl
def Su{w:World}{base B v x e Y s d n c xs ys}{w':World}(h:w.ownsRow base e s v n xs)(b:w'.ownsRow B Y d x c ys)(f:w.heap.size<=B):AL v x:=λg a O=>by
 have j:=(h.lt g a).2;have i:=(b.lt g O).1;omega
def p9{P:Prop}(h:P:=by
 first
  | (have _:=tP
     go_enter func258,ntmps258)
  |(go_enter func177,ntmps177)
 go_wp2
 go_loopw [3,8] (λv i wr=>∃(k:Nat)(a':Option Addr)(c':Nat)(xs:List Value),k<=fs.length/\i=I6 k/\v=.slice a' k c'/\Bp wr w.heap.size (.slice a' k c') k (fs.take k) xs/\Bw w wr) (λ_ i _=>fs.length-(intOf i).toNat)
 case atStart=>exact⟨0,none,0,[],by omega,rfl,rfl,Bp.nil _ _,Aj⟩
 case round=>
  obtain⟨k,a',c',xs,hk,rfl,rfl,ho,hb⟩:=hrel;by_cases av:k<fs.length
  .obtain⟨f,aj⟩:=AJ av;obtain⟨b,o,rfl,c0,c1,s,cs,c2,hsl⟩:=hv.J hb k f aj;have aq:=hs f (yd aj);have HO:=Aa ho;clear ho
   first
    | (have _:=tP
       go_wp2_with (first|(go_at_call 259;refine(mT f s cs _ (hsl.J Af) aq).ac ?_;rintro e w1 ⟨⟨a1,ai,rfl,Y⟩,O⟩;have af:=Aa ((HO.o.J Af).J O);have HX:=Aa Y;clear Y)|(at_builtin;refine EU (by rfl) (.tmp 12) (.tmp 15) 25 (by rfl) w.heap.size 145 _ 3 48 underlying25 Oe (by rfl) (by omega) _ k _ (by rfl) (af.o.own.alloc _) (some ⟨w1.heap.size,0,none⟩) 1 1 (by rfl) (A_ f (.slice a1 f.ad.length ai)) (by rfl) (λe=>by cases e) (by exact OK _ _ _) (OP _ _ _ _) (by unfold maxLen;omega) (by omega) (by have h1:=hb.size;have h2:=O.size;simp at h2⊢;omega) ?_;intro a2 ao w2 ar ah am)))
    | (go_wp2
       go_region_held3 (λw'=>At w' wr.heap.size 0 (I6 f.tag)/\At w' wr.heap.size 1 (.string f.ak)/\At w' wr.heap.size 2 (.slice s f.ad.length cs)) ((go_split_ands;refine ⟨?_,?_,?_⟩ <;> first | (simp[*,go_sem];done) | exact zab O (by simp[*,go_sem]) | exact zab Af (zab O (by simp[*,go_sem])) | exact ah.o.cell (zab Af (zab O (by simp[*,go_sem]))) (λe=>absurd (HO.o.own.lt _ e.ai).2 (KH _))))
         (first|(go_at_call 178;refine(lS s cs f.ad _ (hsl.J ?_) aq).ac ?_;exact Af.drew;rintro e w1 ⟨⟨a1,ai,rfl,Y⟩,O⟩;have af:=Aa ((HO.o.J Af.drew).J O);have HX:=Aa Y;clear Y)|(refine IY (by rfl) (.tmp 12) (.tmp 21) 25 (by rfl) w.heap.size 145 _ 3 48 underlying25 Oe (by rfl) (by omega) _ k _ (by rfl) (af.o.own.alloc _) (some ⟨w1.heap.size,0,none⟩) 1 1 (by rfl) (A_ f (.slice a1 f.ad.length ai)) (by rfl) (λe=>by cases e) (by exact OK _ _ _) (OP _ _ _ _) (by unfold maxLen;omega) (by omega) (by have h1:=hb.size;have h2:=O.size;simp at h2⊢;omega) ?_;intro a2 ao w2 ar ah am)))
   have hX:=HX.o
   first
    | (have _:=tP
       have ak:Bw w w1:=hb.j ((Af.aj O).ac hb.size))
    |(have ak:Bw w w1:=hb.j ((Af.drew.j (O.ac (by simp))).ac hb.size))
   have hsz:w.heap.size<=w1.heap.size:=ak.size;have hS:=(af.o.J Af).snoc ⟨hX.1,(DT hX.2 (by have:=hb.size;simp;omega)).alloc _⟩ (Su HO.o.own hX.2 (by simp)) (λy hy=>by
    obtain⟨f',_,au⟩:=HO.o.bL hy;exact Su au hX.2 (by simp)) ar.o ah.o am.o
   first
    |(have _:=tP)
    |(go_wp2)
   go_roundw
   case rel=>
    rw[<-GC fs k f aj]at hS;exact⟨k+1,a2,ao,_,by omega,by go_num,rfl,hS,((ak.alloc hsz _).grown ah.o (by simp;omega) (λj hj=>(af.o.own.lt j hj).1))⟩
   case measure=>simp[intOf];omega
  go_wp2;go_ret;obtain rfl:k=fs.length:=by omega
  rw[yu AA]at ho;exact⟨⟨a',c',xs,rfl,ho⟩,hb⟩
 ):P:=h
def mE(a c fs w)(hv:BC w a fs)(hl:fs.length<=1048576)(hs:∀f∈fs,f.ad.length<=1048576) :
  Ca 258 #[.slice a fs.length c] w λe w'=>
   (∃a' c' xs,e=.returned (.slice a' fs.length c')/\Bp w' w.heap.size (.slice a' fs.length c') fs.length fs xs)/\Bw w w':=by
 have tP:=trivial;exact p9
def zm9(a c fs w)(hv:BC w a fs)(hl:fs.length<=1048576)(hs:∀f∈fs,f.ad.length<=1048576) :
  Ca 177 #[.slice a fs.length c] w λe w'=>
   (∃a' c' xs,e=.returned (.slice a' fs.length c')/\Bp w' w.heap.size (.slice a' fs.length c') fs.length fs xs)/\Bw w w':=by
 exact p9
end
end Go.Proofs.YtikojfajahnhgaaGreat
