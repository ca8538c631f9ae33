import Derived.Test.YtikojfajahnhgaaGreatKbj
set_option linter.all false
set_option maxHeartbeats 3200000
set_option maxRecDepth 100000
namespace Go.Proofs.YtikojfajahnhgaaGreat
attribute [local simp] At I6 Pn mzI
attribute [local go_sem] At I6 Pn
open Go.RowKit Go.Proofs.Tryz
section
open Go.Maps
attribute [local go_sem ↓] wp_at_zero wp_at_succ
def TH:List Value:=[.nilFunc,.func (.func 157) #[] #[],.func (.func 158) #[] #[],.func (.func 159) #[] #[]]
def q_:(prog.info? 265).map (·.size)=some 4:=qf
def sP:∀v∈TH,v.oneCell'=true:=by
 intro v hv;simp only[TH,yO,YI,or_false]at hv;rcases hv with rfl|rfl|rfl|rfl<;>rfl
def Xc(k:Nat)(v)(d:k<4)(hv:TH[k]?=some v)(w):Ca 95 #[I6 k] w λe w'=>e=.returned v/\Bw w w':=by
 have b:(0:Int)<=(k:Int):=qd;have f:(k:Int)<4:=qd;go_enter func95,ntmps95;go_wp2_with (first|(refine EH qi 265 (.tmp 3) (.tmp 4) qi w.heap.size TH qi qi _ 265 (Eu _ _ _ rfl) qi q_ sP ?_;intro c Y a;have O:=L9 Y.o k v hv;rw[Yt]at O)|fail);go_ret;exact⟨rfl,Af.j (a.o.J AA)⟩
end
section
attribute [local go_sem ↓] wp_at_zero wp_at_succ
def Bp.marked{w l:World}{base n:Nat}{v x:Value}{A B:List F}{f m:F}{X Y:List Value}(h:Bp w base v n (A++f::B) (X++x::Y))(p:X.length=A.length)(k:m.ad.length=f.ad.length)
  (hv:l.ownsRow base 145 3 v n (Be (A++m::B) (X++x::Y))) (E:l.ownsRow base 187 3 x m.ad.length (m.ad.flatMap V.cells)) (G:Mk (λg=>v.ownBlock=some g∨x.ownBlock=some g) w l):Bp l base v n (A++m::B) (X++x::Y):=by
 have t:=Yy.1 h.pair;have O:∀y:Value,y∈X∨y∈Y->∀g,y.ownBlock=some g->l.heap[g]?=w.heap[g]?:=by
  intro y b g o;have D:y∈X++x::Y:=by rcases b with b|b<;>simp[b]
  refine G.block g (h.range (.inr ⟨y,D,o⟩)).2 ?_;rintro(e|e)
  .exact h.apart y D g e o
  rcases b with b|b
  .exact t.2.2 y b x qe g o e
  exact(WT.1 t.2.1).1 y b g e o
 refine⟨by rw[h.num];simp,by rw[h.len];simp,hv,?_,h.apart,h.pair⟩;intro i q y d b;rcases Nat.lt_trichotomy i A.length with j|j|j
 .rw[yB j]at d;rw[yB qd]at b;obtain⟨s,r⟩:=h.each i q y (by rw[yB j];exact d) (by rw[yB qd];exact b);exact⟨s,BZ r (O y (.inl (yd b)))⟩
 .subst j;rw[yF (yX _)]at d;rw[yF qd,p]at b;simp at d b;subst d;subst b;obtain⟨⟨a,c,e⟩,_⟩:=h.each A.length f x qe (by rw[yF qd,p];simp);exact⟨⟨a,c,by rw[e,k]⟩,E⟩
 have z:∀u:F,(A++u::B)[i]?=B[i-A.length-1]?:=λu=>by
  rw[yF qd,List.getElem?_cons,if_neg qd]
 have C:(X++x::Y)[i]?=Y[i-A.length-1]?:=by
  rw[yF qd,List.getElem?_cons,if_neg qd,p]
 rw[z]at d;rw[C]at b;obtain⟨s,r⟩:=h.each i q y (by rw[z];exact d) (by rw[C];exact b);exact⟨s,BZ r (O y (.inr (yd b)))⟩
end
section
open Go.Maps
attribute [local go_sem ↓] wp_at_zero wp_at_succ
def Dd(but:Int)(cls:ByteArray)(vs:List V)(f:F):Bool:=decide (f.tag≠but)&&(decide (f.ak=cls)&&decide (f.ad=vs))
def Hf(but:Int)(cls:ByteArray)(vs:List V):List F->Int
 |[]=>0
 |f::r=>if Dd but cls vs f then f.tag else Hf but cls vs r
def EE(sg:Bool)(but:Int)(cls:ByteArray)(vs:List V)(fs:List F):Int:=if sg then Hf but cls vs fs else 0
def VW{but a vs}:∀{fs:List F}{last:Int},0<=last->BO last fs=true->Hf but a vs fs=0∨0<Hf but a vs fs
 |[],_,_,_=>.inl rfl
 |f::r,last,hl,h=>by
  simp only[BO,Hj,yk,decide_eq_true_eq]at h
  unfold Hf
  split
  .exact .inr (by omega)
  exact VW (last:=f.tag) (by omega) h.2
def o9{P:Prop}(h:P:=by
 have HT:=Aa (show EE true but cls vs (fs.drop k)=EE true but cls vs (fs.drop (k+1)) by rw[HD.o];show(if Dd but cls vs f then f.tag else _)=_;rw[O];rfl);go_wp2;go_roundw
 case rel=>exact⟨k+1,by omega,by go_num,by rw[HG.o,HT.o],hb.alloc af _⟩
 case measure=>(simp;omega)
 ):P:=h
def lV(a c fs nx cp sg but cls sa q vs w)(hv:BC w a fs)(x:Bj w sa vs)(hl:fs.length<=1048576)(y:∀f∈fs,f.ad.length<=1048576) :
  Ca 119 #[.agg #[.slice a fs.length c,.int .i64 nx,.int .i64 cp,.bool sg],.int .i64 but,.string cls,.slice sa vs.length q] w λe w'=>
   e=.returned (.int .i64 (EE sg but cls vs fs))/\Bw w w':=by
 go_enter func119,ntmps119;go_wp2
 go_loopw [14] (λi wr=>∃(k:Nat),k<=fs.length/\i=.int .i64 k/\EE sg but cls vs fs=EE sg but cls vs (fs.drop k)/\Below (w.heap.size+1) (w.alloc (.cells #[.slice a fs.length c,.int .i64 nx,.int .i64 cp,.bool sg] 27)) wr) (mz fs.length)
 case atStart=>exact⟨0,qd,rfl,rfl,Aj⟩
 case round=>
  obtain⟨k,C,rfl,u,hb⟩:=hrel;have HG:=Aa u;clear u;have d:=hb;rw[<-Wy w (.cells #[.slice a fs.length c,.int .i64 nx,.int .i64 cp,.bool sg] 27)]at d;have Y:Bw w wr:=Af.aj d;by_cases A:k<fs.length
  .obtain⟨f,p⟩:=AJ A;obtain⟨b,o,rfl,H,D,s,cs,K,l⟩:=hv.J Y k f p;have HD:=Aa (Ck p);have v:=y f (yd p);have B:At wr w.heap.size 3 (.bool sg):=zab d qk;have af:w.heap.size+1<=wr.heap.size:=by have:=d.size;simpa using this
   have r:=x.J Y;have G:w.heap.size<wr.heap.size:=qd;cases sg
   .go_wp2;go_roundw
    case rel=>exact⟨k+1,qd,ql,by rw[HG.o];rfl,hb.alloc af _⟩
    case measure=>(simp;omega)
   cases n:(f.tag != but)
   .have O:Dd but cls vs f=false:=by unfold Dd;simp at n;simp[n]
    exact o9
   cases g:(f.ak.toList==cls.toList)
   .have O:Dd but cls vs f=false:=by rw[EV]at g;unfold Dd;rw[g];simp
    exact o9
   have O:Dd but cls vs f=decide (f.ad=vs):=by rw[EV]at g;unfold Dd;rw[g];simp at n;simp[n]
   have HT:=Aa (show EE true but cls vs (fs.drop k)=if decide (f.ad=vs) then f.tag else EE true but cls vs (fs.drop (k+1)) by rw[HD.o];show(if Dd but cls vs f then f.tag else _)=_;rw[O];rfl);cases t:decide (f.ad=vs)
   .go_wp2_with (go_at_call 175;refine(SW s sa cs q f.ad vs _ (l.J Af) (r.J Af) v).an λz m=>?_);go_roundw
    case rel=>exact⟨k+1,qd,ql,by rw[HG.o,HT.o,t];rfl,(hb.alloc af _).j (m.ac qg)⟩
    case measure=>(simp;omega)
   go_wp2_with (go_at_call 175;refine(SW s sa cs q f.ad vs _ (l.J Af) (r.J Af) v).an λz m=>?_;obtain⟨E,I⟩:=Ah m);go_ret;exact⟨E_ (by rw[HG.o,HT.o,t];rfl),(Y.alloc qd _).j (m.ac qg)⟩
  go_wp2;go_ret;exact⟨E_ (by rw[HG.o,yD qd];cases sg<;>rfl),Y⟩
end
section
attribute [local go_sem ↓] wp_at_zero wp_at_succ
def J5(a:Option Addr)(n c:Nat)(nx cp:Int)(sg:Bool):List Value:=[.slice a n c,.int .i64 nx,.int .i64 cp,.bool sg]
def iD(a n c nx cp sg):∀v∈J5 a n c nx cp sg,v.oneCell'=true:=by
 intro v hv;simp only[J5,yO,YI,or_false]at hv;rcases hv with rfl|rfl|rfl|rfl<;>rfl
def TZ:(prog.info? 27).map (·.size)=some 4:=qf
def Dj{w w'}{b:Nat}{o}(h:w.heap[b]?=some o)(a:Bw w w'):w'.heap[b]?=some o:=(a.block b (As h)).j h
def wP{w w' b O o}(h:w.heap[b]?=some o)(c:Turned w w' O)(a:b≠O):w'.heap[b]?=some o:=(c.block b a).j h
def RE{w w':World}{o o'}{b:Nat}(h:w.heap[b]?=some o)(a:Turned (w.alloc o') w' w.heap.size):w'.heap[b]?=some o:=by
 have hl:=As h;exact wP ((yV _ _ _ hl).j h) a qd
def Dw{w w' o'}(a:Turned (w.alloc o') w' w.heap.size):Bw w w':=
 Af.j (a.J AA)
def Vb{w w':World}{o'}(a:Turned (w.alloc o') w' w.heap.size):w'.heap.size=w.heap.size+1:=by rw[a.size];simp
def IV{w:World}{b a n c nx cp sg t e}(h:w.heap[b]?=some (.cells (J5 a n c nx cp sg).toArray t e)):At w b 0 (.slice a n c)/\At w b 1 (I6 nx)/\At w b 2 (I6 cp)/\At w b 3 (.bool sg):=by
 have d:=L9 h;exact⟨d 0 _ rfl,d 1 _ rfl,d 2 _ rfl,d 3 _ rfl⟩
def wt(l:List F):Nat:=2*l.length+3*(l.map λf=>f.ad.length).sum
end
section
open Go.Maps
attribute [local go_sem ↓] wp_at_zero wp_at_succ
def sK{f g}(c:Gg f)(b:Gg g)(w):(binOp .eql 382 (.agg (DW f).toArray) (.agg (DW g).toArray)).run prog w=.ok (.bool (decide (f.ak=g.ak)&&decide (f.ad=g.ad))) w:=by
 obtain⟨j,K⟩:=KL.bV;obtain⟨r,d,O⟩:=run_equal_deep (P:=prog) w (m:=5) qd (k:=382) qf ZT (K f c) (K g b);rw[run_eql_struct];have e:(Op.equalIn 10000 382 (.agg (DW f).toArray) (.agg (DW g).toArray)).run prog w=.ok r w:=d;rw[e];show Result.ok (Value.bool r) w=_;rw[UI K c b,Py]at O;have:r=(decide (f.ak=g.ak)&&decide (f.ad=g.ad)):=by
  cases r
  .have a:¬(f.ak=g.ak/\f.ad=g.ad):=λh=>by cases O.2 h
   symm
   simpa[WV] using a
  obtain⟨i,a⟩:=O.1 rfl;simp[i,a]
 rw[this]
def tF{f}(hl:f.ad.length<=6):(DW f).length=20:=by unfold DW;rw[PI,Pv _ hl]
def EM(w:World)(b:Nat):List Value:=match w.heap[b]? with|some (.cells c _ _)=>c.toList|_=>[]
def LT:Value->Nat
 |.pointer (some p)=>p.block
 |_=>0
def sN{w b L t a}(h:w.heap[b]?=some (.cells L.toArray t a)):EM w b=L:=by simp[EM,h]
def zpP{w w' b L}(h:EM w b=L)(c:Bw w w')(a:b<w.heap.size):EM w' b=L:=by
 unfold EM at h⊢;rw[c.block b a];exact h
def vV(ρ:Operand->Value)(d:Option Tmp)(x:Operand)(ty:TypeId)(pos:String)(O:Array Edge)(Y:Option (Nat × Bool))(w:World)(e:ρ x=.pointer (some ⟨LT (ρ x),0,none⟩))(hl:(EM w (LT (ρ x))).length=20) :
  (execOp ρ ⟨d,.load 382 x,ty,pos,O,Y⟩).run prog w=.ok (.value (.agg (EM w (LT (ρ x))).toArray)) w:=by
 have a:w.rangeAt (LT (ρ x)) 0 (EM w (LT (ρ x))):=by
  intro j v hv;unfold EM at hv;split at hv
  .rename_i c t f b;simp[World.cell?,b];simpa using hv
  simp at hv
 have:=run_loadAt_mid (P:=prog) w (LT (ρ x)) 0 382 (EM w (LT (ρ x))) _ a underlying382 rfl (by rw[hl];exact Ug);rw[<-e]at this;simp only[execOp,S_,this,Kx,Sem.run_pure]
attribute [local go_sem ↓] vV
attribute [local go_sem] LT
def ZQ{P:Prop}(h:P:=by
 go_wp2
 go_region_held3 (λw'=>At w' wr.heap.size 0 (I6 f.tag)/\At w' wr.heap.size 1 (.string f.ak)/\At w' wr.heap.size 2 (.slice s f.ad.length cs)/\EM w' w1.heap.size=DW g)
  ((go_split_ands;refine⟨?_,?_,?_,?_⟩<;>first|with_reducible exact zab O (by assumption)|(with_reducible refine zpP (by assumption) O ?_;simp;omega)|exact hH2 _|(simp[go_sem];done))) ((go_at_call 257;refine(Ux f s cs _ (hsl.J ?_) hkf.2.1).ac ?_;exact Af.drew;rintro e w3 ⟨rfl,O⟩))
 have Y:Bw w2 w3:=(hb.alloc hb.size _).drew.j (O.ac (by have:=hb.size;simp;omega));go_wp2
 first
  | (have _:=tP4
     go_roundw
     case rel=>exact⟨k+1,by omega,by go_num,by rw[HG.o,HT.o];rfl,Y⟩
     case measure=>(simp;omega))
  | (go_ret
     exact⟨E_ (by show f.tag=Hf but g.ak g.ad fs;rw[HG.o,HT.o];rfl),hB2.aj Y⟩)
 ):P:=h
def ic(a c fs nx cp sg g sa n but w)(hv:BC w a fs)(A:Bj w sa g.ad)(hl:fs.length<=1048576)(z:∀f∈fs,Gg f)(l:Gg g) :
  Ca 215 #[.agg #[.slice a fs.length c,I6 nx,I6 cp,.bool sg],.agg #[I6 g.tag,.string g.ak,.slice sa g.ad.length n],I6 but] w λe w'=>
   e=.returned (I6 (EE sg but g.ak g.ad fs))/\Bw w w':=by
 cases sg
 .go_enter func215,ntmps215;go_wp2;go_ret;exact⟨rfl,Ax⟩
 have HL:=Aa (tF l.2.1);go_enter func215,ntmps215;go_wp2_with (first|(go_at_call 257;refine(Ux g sa n _ (A.J Ax) l.2.1).an λw1 Y=>?_;obtain⟨B,G⟩:=Ah Y)|(refine EH qi 382 (.tmp 7) (.tmp 14) qi w1.heap.size (DW g) qi qi _ 382 (Eu _ _ _ rfl) (by rw[HL.o];rfl) Tp (Vj _ _ _) ?_;intro w2 p d;have D:At w2 w.heap.size 0 (.slice a fs.length c):=zab (Dw d.o) (zab Y qk))|fail);have ak:Bw w w1:=Ax.aj Y;have hB2:Bw w w2:=ak.j ((Dw d.o).ac ak.size);have H:=hv.J hB2;have M:=Vb d.o;have v:=Aa p.o;clear B G Y d D p
 go_loopw [18] (λi wr=>∃(k:Nat),k<=fs.length/\i=I6 k/\Hf but g.ak g.ad fs=Hf but g.ak g.ad (fs.drop k)/\Bw w2 wr) (mz fs.length)
 case atStart=>exact⟨0,qd,rfl,rfl,Aj⟩
 case round=>
  obtain⟨k,R,rfl,t,hb⟩:=hrel;have HG:=Aa t;clear t;by_cases C:k<fs.length
  .obtain⟨f,m⟩:=AJ C;obtain⟨b,o,rfl,N,L,s,cs,I,hsl⟩:=H.J hb k f m;have q:=Aa (Ck m);have hkf:=z f (yd m);have y:w1.heap.size<wr.heap.size:=by have:=hb.size;omega
   have hH2:∀o,EM (wr.alloc o).drew w1.heap.size=DW g:=λo=>sN (w:=wr.alloc o) ((yV _ _ _ y).j (Dj v.o hb));have u:(DW g).length=20:=HL.o;have aj:=λw'=>sK hkf l w';by_cases ht:f.tag=but
   .have O:Dd but g.ak g.ad f=false:=by unfold Dd;simp[ht]
    have HT:=Aa (show Hf but g.ak g.ad (fs.drop k)=Hf but g.ak g.ad (fs.drop (k+1)) by rw[q.o];show(if Dd but g.ak g.ad f then f.tag else _)=_;rw[O];rfl);clear aj u O;subst ht;go_wp2
    go_quiet (fail)
    have E:Bw w2 ((wr.alloc (.cells #[I6 f.tag,.string f.ak,.slice s f.ad.length cs] 145)).drewN nq):=Fo (hb.alloc hb.size _);go_wp2;go_roundw
    case rel=>exact⟨k+1,qd,ql,by rw[HG.o,HT.o],E⟩
    case measure=>(simp;omega)
   have O:Dd but g.ak g.ad f=(decide (f.ak=g.ak)&&decide (f.ad=g.ad)):=by unfold Dd;simp[ht]
   have x:(f.tag != but)=true:=NB;have HT:=Aa (show Hf but g.ak g.ad (fs.drop k)=if(decide (f.ak=g.ak)&&decide (f.ad=g.ad)) then f.tag else Hf but g.ak g.ad (fs.drop (k+1)) by rw[q.o];show(if Dd but g.ak g.ad f then f.tag else _)=_;rw[O]);clear O;generalize K:(decide (f.ak=g.ak)&&decide (f.ad=g.ad))=r at aj HT;cases r
   .have tP4:=trivial;exact ZQ
   exact ZQ
  go_wp2;go_ret;exact⟨E_ (by show 0=Hf but g.ak g.ad fs;rw[HG.o,yD qd];rfl),hB2.aj hb⟩
end
section
attribute [local go_sem ↓] wp_at_zero wp_at_succ
structure GO(Z:Nat->Prop) (w:World) (base:Nat) (v:Value) (n:Nat) (fs:List F) (xs:List Value):Prop where
 num:n=fs.length
 len:xs.length=fs.length
 own:w.ownsRow base 145 3 v n (Be fs xs)
 each:∀(i:Nat)(f:F)(x:Value),fs[i]?=some f->xs[i]?=some x->∃a c,x=.slice a f.ad.length c/\Fx Z w a f.ad
 apart:∀b,Z b->v.ownBlock≠some b
def Bp.ds{w base v n fs xs}(h:Bp w base v n fs xs):GO (λb=>base<=b/\b<w.heap.size/\v.ownBlock≠some b) w base v n fs xs:=by
 refine⟨h.num,h.len,h.own,λi f x m d=>?_,λb p=>p.2.2⟩;obtain⟨⟨a,c,e⟩,g⟩:=h.each i f x m d;have O:=h.apart x (yd d);subst e;refine⟨a,c,rfl,λj u hu=>?_⟩;obtain⟨b,o,rfl,k,l⟩:=Bj.owns g j u hu;exact⟨b,o,⟨(g.lt b rfl).1,yZ w ⟨b,_,none⟩ k,λe=>O b e rfl⟩,rfl,k,l⟩
def LG.ds{Z w0 w v n fs xs}(h:LG Z w0 w v n fs xs)(q:Bw w0 w):GO (λb=>Z b/\b<w0.heap.size) w w0.heap.size v n fs xs:=by
 refine⟨h.num,h.len,h.own,λi f x r m=>?_,λb Y e=>by have:=(h.own.lt b e).1;omega⟩;obtain⟨a,c,rfl,Y⟩:=h.each i f x r m;refine⟨a,c,rfl,λj u hu=>?_⟩;obtain⟨b,o,O,rfl,k,p,l⟩:=Y j u hu;have d:b<w0.heap.size:=yZ w0 ⟨b,_,none⟩ k;have g:=q.block b d;exact⟨b,o,⟨O,d⟩,rfl,Li g k,Li g p,Li g l⟩
def GO.J{Z w w' base v n fs xs}(h:GO Z w base v n fs xs)(j:Bw w w'):GO Z w' base v n fs xs:=
 ⟨h.num,h.len,BZ h.own (λg k=>j.block g (h.own.lt g k).2),λi f x m l=>by
  obtain⟨a,c,e,hv⟩:=h.each i f x m l
  exact⟨a,c,e,hv.kept (λb _ d=>j.block b d)⟩,h.apart⟩
def GO.ac{Z Z' w base v n fs xs}(h:GO Z w base v n fs xs)(O:∀b,Z b->Z' b)(Y:∀b,Z' b->v.ownBlock≠some b):GO Z' w base v n fs xs:=
 ⟨h.num,h.len,h.own,λi f x g d=>by
  obtain⟨a,c,e,hv⟩:=h.each i f x g d
  exact⟨a,c,e,hv.ac O⟩,Y⟩
def GO.on{Z w base a n c fs xs}(h:GO Z w base (.slice a n c) n fs xs):DD (λb=>Z b∨(Value.slice a n c).ownBlock=some b) w a fs:=by
 intro i f d;have m:i<fs.length:=(yf.1 d).1;have k:xs[i]?=some (xs[i]'(by rw[h.len];exact m)):=yK _;obtain⟨o,q,e,l⟩:=h.each i f _ d k;have key:=λj(hj:j<3)=>Ov fs xs h.len i f _ d k j hj;obtain⟨g,rfl,_,h0,_⟩:=CC h.own ((key 0 qd).j rfl);obtain⟨s,Y,_,h1,_⟩:=CC h.own ((key 1 qd).j rfl);obtain⟨r,O,_,h2,_⟩:=CC h.own ((key 2 qd).j rfl);cases Y;cases O;rw[e]at h2;exact⟨g,0,.inr rfl,rfl,qC,qt,o,q,qv,l.ac (λb p=>.inl p)⟩
def GO.snoc{Z w w' base v j n fs xs f x}(h:GO Z w base v n fs xs)(o:∀b,Z b->b<w.heap.size)(m:∃a c,x=.slice a f.ad.length c/\Fx Z w a f.ad)(ho:w'.ownsRow base 145 3 j (n+1) (Be fs xs++A_ f x))(l:w.grownBy w' v.ownBlock)(hl:j.ownBlock=v.ownBlock∨j.ownBlock=some w.heap.size):GO Z w' base j (n+1) (fs++[f]) (xs++[x]):=by
 have keep:∀(a:Option Addr)(vs:List V),Fx Z w a vs->Fx Z w' a vs:=λa vs hv=>hv.kept (λb O k=>l.block b k (λe=>h.apart b O e.ai));refine⟨by simp[h.num],by simp[h.len],Zf,?_,?_⟩
 .intro i p y d g;by_cases hi:i<fs.length
  .rw[yB hi]at d;rw[yB To]at g;obtain⟨a,c,e,hv⟩:=h.each i p y d g;exact⟨a,c,e,keep a _ hv⟩
  have Y:i<(fs++[f]).length:=(yf.1 d).1;simp at Y;obtain rfl:i=fs.length:=qd;rw[yF AA]at d;rw[yF Zh,h.len]at g;simp at d g;subst d;subst g;obtain⟨a,c,e,hv⟩:=m;exact⟨a,c,e,keep a _ hv⟩
 intro b O;rcases hl with hl|hl
 .rw[hl];exact h.apart b O
 rw[hl];intro e;cases e;have:=o _ O;omega
def e_{W a:World}(c:Below W.drew.heap.size W.drew a):(∀b o,b<W.heap.size->a.cell? ⟨b,o,none⟩=W.cell? ⟨b,o,none⟩)/\(∀b o,b<W.heap.size->a.frozen? ⟨b,o,none⟩=W.frozen? ⟨b,o,none⟩):=
 ⟨λb o h=>c.cell (p:=⟨b,o,none⟩) h,λb o h=>c.frozen (p:=⟨b,o,none⟩) h⟩
def Qa{w c d:World}{o}{v:Value}(i:(c.alloc o).grownBy d v.ownBlock)(hv:∀g,v.ownBlock=some g->g<w.heap.size)(b)(k:w.heap.size<=b)(f:b<c.heap.size) :
  (∀j,d.cell? ⟨b,j,none⟩=c.cell? ⟨b,j,none⟩)/\(∀j,d.frozen? ⟨b,j,none⟩=c.frozen? ⟨b,j,none⟩):=by
 have e:d.heap[b]?=c.heap[b]?:=(i.block b qg (λe=>by have:=hv b e.ai;omega)).j (yV _ _ _ f);exact⟨λj=>y8 (a:=⟨b,j,none⟩) e,λj=>by simp[World.frozen?,e]⟩
def jU(a c fs xs nx cp sg d sa B vs Z base w)(z:GO Z w base (.slice a fs.length c) fs.length fs xs)(T:∀b,Z b->b<w.heap.size)(aG:Bj w sa vs)(hl:fs.length<=1048576)(aD:vs.length<=1048576)(hbase:base<=w.heap.size)(h1:0<=nx)(G:nx<=1000000) :
  Ca 120 #[.agg #[.slice a fs.length c,I6 nx,I6 cp,.bool sg],.string d,.slice sa vs.length B] w λe w'=>
   (∃N L,e=.returned (C6.val ⟨fs++[⟨nx,d,vs⟩],nx+1,cp,sg,0,nx⟩ N L)/\DD (λb=>Z b∨base<=b) w' N (fs++[⟨nx,d,vs⟩])/\fs.length+1<=L)/\Below base w w':=by
 have aL:IntKind.i64.wrap (nx+1)=nx+1:=by rw[yS];omega
 have aK:IntKind.i64.wrap (nx+1-1)=nx:=by rw[yS];omega
 obtain⟨HP,n⟩:=Ak z (λg(hg:(Value.slice a fs.length c).ownBlock=some g)=>(z.own.lt g hg).2);clear z;go_enter func120,ntmps120;go_wp2_with fail
 go_region_law (first|(go_simp;go_at_call 178;refine(lS sa B vs _ (aG.J ?_) aD).ac ?_;exact Ax.drew;rintro e k ⟨⟨m,p,rfl,M⟩,Y⟩;obtain⟨x,s⟩:=e_ Y;have HX:=Aa M;clear M;have r:=Aa ((HP.o.J Ax.drew).J Y);have aB:w.heap.size+1<k.heap.size:=yh qe Y.size;have aE:w.heap.size<k.heap.size:=qd)|(refine IY qi (.tmp 8) (.tmp 15) 25 qi base 145 _ 3 48 underlying25 Oe qi qd _ fs.length _ qi (r.o.own.alloc _) (some ⟨k.heap.size,0,none⟩) 1 1 qi (A_ ⟨nx,d,vs⟩ (.slice m vs.length p)) qi (λe=>qp) (by exact OK _ _ _) (OP _ _ _ _) qm qd (by have G:=Y.size;simp at G⊢;omega) ?_;intro D R w2 y q E;obtain⟨C,U⟩:=Qa q.o n.o w.heap.size AA aE;obtain⟨H,A⟩:=Qa q.o n.o (w.heap.size+1) qd aB;have aI:=λj=>(C j).j (x w.heap.size j qg);have aJ:=λj=>(U j).j (s w.heap.size j qg);have aA:=λj=>(H j).j (x (w.heap.size+1) j qe);have aM:=λj=>(A j).j (s (w.heap.size+1) j qe);clear C U H A x s)|fail)
 all_goals
  have az:∀b,(Z b∨(w.heap.size+1+1<=b/\b<k.heap.size))->b<k.heap.size:=λb i=>by
   rcases i with i|i
   .have:=T b i;omega
   exact i.2
  have K:=(r.o.J (Aj.alloc AA (.cells (A_ ⟨nx,d,vs⟩ (.slice m vs.length p)).toArray 145))).ac (Z':=λb=>Z b∨(w.heap.size+1+1<=b/\b<k.heap.size)) (λb i=>.inl i) (λb i=>by
   rcases i with i|i
   .exact r.o.apart b i
   intro e;have:=n.o b e;omega)
  have I:Fx (λb=>Z b∨(w.heap.size+1+1<=b/\b<k.heap.size)) (k.alloc (.cells (A_ ⟨nx,d,vs⟩ (.slice m vs.length p)).toArray 145)) m vs:=
   ((Fx.owns HX.o.2).ac (λb i=>.inr (by have:=i.1;simp at this;exact⟨this,i.2⟩))).kept (λb _ t=>yV _ _ _ t)
  have hS:=K.snoc (f:=⟨nx,d,vs⟩) (λb i=>by have:=az b i;simp;omega) ⟨m,p,rfl,I⟩ y.o q.o E.o;obtain⟨W,aC⟩:=Ak hS.on y.o.lt;clear K I hS;go_wp2;refine bodyPost_ret (v:=C6.val ⟨fs++[⟨nx,d,vs⟩],nx+1,cp,sg,0,nx⟩ D R) (by simp[results,results120,go_sem,aA,C6.val]) rfl ⟨⟨D,R,rfl,?_,MP y.o⟩,?_⟩
  .refine(W.o.kept (w':=_) ?_).ac ?_;rotate_left
   .intro b O;rcases O with(O|O)|O
    .exact .inl O
    .exact .inr qd
    exact .inr (aC.o b O).1
   intro b O _;have l:b≠w.heap.size/\b≠w.heap.size+1:=by
    rcases O with(O|O)|O
    .have:=T b O;omega
    .omega
    rcases E.o with e|e
    .have:=n.o b (e.ai.j O);omega
    have:=e.ai.j O;simp at this;omega
   have k1:∀(v:World)o u,(v.setCell ⟨w.heap.size,o,none⟩ u).heap[b]?=v.heap[b]?:=λv o u=>Yb _ _ _ _ l.1;have k2:∀(v:World)o u,(v.setCell ⟨w.heap.size+1,o,none⟩ u).heap[b]?=v.heap[b]?:=λv o u=>Yb _ _ _ _ l.2;simp only[k1,k2]
  have aH:Below base w k:=(Ax.drew.j (Y.ac qg)).ac hbase;have aF:Below base w w2:=(aH.alloc qd _).grown q.o qg (λj hj=>(r.o.own.lt j hj).1);exact(((((((aF.setCell qg _).setCell qg _).setCell qg _).setCell qg _).setCell qg _).setCell qg _).setCell qg _).setCell qg _
def Cf(fs:List F)(nx cp:Int)(sg:Bool)(cls:ByteArray)(vs:List V):C6:=
 if 0<EE sg 0 cls vs fs then⟨fs,nx,cp,sg,2,EE sg 0 cls vs fs⟩ else if(fs.length:Int)=cp then⟨fs,nx,cp,sg,3,0⟩ else if 1000000<nx then⟨fs,nx,cp,sg,4,0⟩ else⟨fs++[⟨nx,cls,vs⟩],nx+1,cp,sg,0,nx⟩
def De(fs:List F)(nx cp:Int)(sg:Bool)(cls:ByteArray)(vs:List V):C6:=
 if Cg fs nx cp sg&&(Aw cls.data.toList&&C4 vs) then Cf fs nx cp sg cls vs else C6.bad
def RZ{fs nx cp sg a vs}(h:(Cg fs nx cp sg&&(Aw a.data.toList&&C4 vs))=false):De fs nx cp sg a vs=C6.bad:=by unfold De;rw[h];rfl
def RG{fs nx cp sg a vs}(d:Cg fs nx cp sg=true)(b:Aw a.data.toList=true)(c:C4 vs=true):De fs nx cp sg a vs=Cf fs nx cp sg a vs:=by unfold De;rw[d,b,c];rfl
def SS{fs nx cp sg}(h:Cg fs nx cp sg=true):0<=cp/\cp<=40/\(fs.length:Int)<=cp/\1<=nx/\nx<=1000001:=by
 simp only[Cg,FU,yk,decide_eq_true_eq]at h;omega
def zmO(a c fs nx cp sg d sa k vs w)(hv:BC w a fs)(z:Bj w sa vs)(j:fs.length<=c)(hl:fs.length<=1048576)(g:∀f∈fs,AV f)(aj:d.size<=maxLen)(u:vs.length<=1048576)(x:∀v∈vs,v.av.size<=maxLen)(Y:(Cg fs nx cp sg&&(Aw d.data.toList&&C4 vs))=false) :
  Ca 60 #[.agg #[.slice a fs.length c,I6 nx,I6 cp,.bool sg],.string d,.slice sa vs.length k] w λe w'=>
   (∃n p,e=.returned (C6.bad.val n p)/\DD (λb=>w.heap.size<=b) w' n C6.bad.fs/\C6.bad.fs.length<=p)/\Bw w w':=by
 cases s:Cg fs nx cp sg
 .clear Y;go_enter func60,ntmps60;go_wp2_with (go_at_call 115;refine(JY a c fs nx cp sg _ (hv.J Ax) j hl g).an λw1 O=>?_;obtain⟨af,m⟩:=Ah O);refine bodyPost_ret (v:=C6.bad.val none 0) pG rfl ⟨⟨none,0,rfl,λi f hf=>Nx,yA _⟩,?_⟩;exact X0
 rw[s,YP]at Y;cases t:Aw d.data.toList
 focus
  clear Y;go_enter func60,ntmps60;go_wp2_with (first|(go_at_call 115;refine(JY a c fs nx cp sg _ (hv.J Ax) j hl g).an λw1 O=>?_;obtain⟨af,m⟩:=Ah O)|(go_at_call 116;refine(Hg d _ aj).ac ?_;rintro e w' ⟨rfl,rfl⟩)|fail);refine bodyPost_ret (v:=C6.bad.val none 0) pG rfl ⟨⟨none,0,rfl,λi f hf=>Nx,yA _⟩,?_⟩;have hB:Bw w _:=Ax.aj O
 rotate_left
 focus
  rw[t,YP]at Y;go_enter func60,ntmps60;go_wp2_with (first|(go_at_call 115;refine(JY a c fs nx cp sg _ (hv.J Ax) j hl g).an λw1 O=>?_;obtain⟨af,m⟩:=Ah O;have o:Bw w w1:=(Ax.aj O);have q:w.heap.size+1<w1.heap.size:=yh qe O.size)|(go_at_call 116;refine(Hg d _ aj).ac ?_;rintro e w' ⟨rfl,rfl⟩)|(go_at_call 117;refine(OS sa k vs _ (z.J o) u x).an λy l=>?_;obtain⟨r,A⟩:=Ah l)|fail);refine bodyPost_ret (v:=C6.bad.val none 0) (by simp[results,results60,go_sem,af,r,q,C6.val,C6.bad]) rfl ⟨⟨none,0,rfl,λi f hf=>Nx,yA _⟩,?_⟩;have hB:Bw w y:=o.aj l
 rotate_left
 all_goals
  exact(((((hB.setCell qe _).setCell qe _).setCell qe _).setCell qe _).setCell qe _).setCell qe _
def X8{P:Prop}(h:P:=by rw[HE.o];exact⟨⟨a2,c2,rfl,(af.o.kept (λg hg=>O.o.block g (by have:=(af.o.range hg).1;omega))).on.ac (λb hb=>by have:=hb.1;omega),MP af.o.own⟩,ao.j (O.o.J (by omega))⟩):P:=h
def wh(a c fs nx cp sg d sa s vs w)(hv:BC w a fs)(y:Bj w sa vs)(hc:fs.length<=c)(hl:fs.length<=1048576)(E:∀f∈fs,AV f)(a0:d.size<=maxLen)(aJ:vs.length<=1048576)(aX:∀v∈vs,v.av.size<=maxLen)(a4:Cg fs nx cp sg=true)(bc:Aw d.data.toList=true)(a7:C4 vs=true) :
  Ca 60 #[.agg #[.slice a fs.length c,I6 nx,I6 cp,.bool sg],.string d,.slice sa vs.length s] w λe w'=>
   (∃a' c',e=.returned ((Cf fs nx cp sg d vs).val a' c')/\DD (λb=>w.heap.size<=b) w' a' (Cf fs nx cp sg d vs).fs/\(Cf fs nx cp sg d vs).fs.length<=c')/\Bw w w':=by
 have q:∀f∈fs,f.ad.length<=1048576:=λf hf=>(E f hf).2.1;obtain⟨n1,n2,n3,n4,n5⟩:=SS a4;go_enter func60,ntmps60;go_wp2_with (first|(go_at_call 115;refine(JY a c fs nx cp sg _ (hv.J Ax) hc hl E).an λw0 i=>?_;obtain⟨aP,aY⟩:=Ah i;have aK:Bw w w0:=(Ax.aj i);have aD:w.heap.size+1<w0.heap.size:=yh qe i.size;have aI:w.heap.size<w0.heap.size:=qd)|(go_at_call 116;refine(Hg d _ a0).ac ?_;rintro e w' ⟨rfl,rfl⟩)|(go_at_call 117;refine(OS sa s vs _ (y.J aK) aJ aX).an λm n=>?_;obtain⟨aR,aZ⟩:=Ah n)|fail);have G:Bw w m:=aK.aj n;have aV:w.heap.size+1<m.heap.size:=yh aD n.size;obtain⟨R,hR,x⟩:∃R:Array Value,m.heap[w.heap.size+1]?=some (.cells R 87 (0,0))/\R.size=6:=⟨_,(n.block _ aD).j ((i.block _ qe).j (Eu _ _ _ qe)),rfl⟩
 have M:m.heap[w.heap.size]?=some (.cells (J5 a fs.length c nx cp sg).toArray 27 (0,0)):=(n.block _ aI).j ((i.block _ qg).j ((yV _ _ _ qe).j (Eu _ _ _ rfl)));clear aP aY aR aZ;refine(Sy a c fs nx cp sg m (hv.J G) hl q).ac ?_;rintro e w2 ⟨⟨a2,c2,aW,rfl,U⟩,t⟩;obtain⟨L,aC⟩:=Ak (Dj M t) (Dj hR t);have H:Bw w w2:=G.aj t;have a9:=t.size;clear M hR;go_wp2_with (first|(refine EH qi 27 (.tmp 7) (.tmp 24) qi w2.heap.size (J5 a2 fs.length c2 nx cp sg) qi qi _ 27 (Eu _ _ _ rfl) qi TZ (iD _ _ _ _ _ _) ?_;intro aH W r;have K:=Aa (RE L.o r.o))|(refine Xv qi 27 (.tmp 3) qi w.heap.size (J5 a fs.length c nx cp sg) qi 27 (0,0) K.o _ underlying27 qi TZ ?_)|fail);have A:=Dw r.o;have a6:=Vb r.o;have D:Bw w aH:=H.aj A;obtain⟨N,ay⟩:=Ak (RE aC.o r.o) (U.J A);clear r L aC U A;refine(lV a c fs nx cp sg 0 d sa s vs aH (hv.J D) (y.J D) hl q).an λw3 l=>?_;obtain⟨aS,aT,z,af⟩:=BE (Dj K.o l) (Dj W.o l) (Dj N.o l) (ay.o.J l);have ao:Bw w w3:=D.aj l;have a8:=l.size;have aF:=y.J ao;obtain⟨q0,q1,q2,q3⟩:=IV aS.o;obtain⟨p0,p1,p2,p3⟩:=IV aT.o;clear K N ay W l hv y E;generalize k:EE sg 0 d vs fs=T;by_cases u:0<T
 .have HE:=Aa (show Cf fs nx cp sg d vs=⟨fs,nx,cp,sg,2,T⟩ by unfold Cf;rw[k,if_pos u]);clear k;go_wp2_with (first|(refine EH qi 87 (.tmp 6) (.tmp 34) qi (w.heap.size+1) (C6.cells ⟨fs,nx,cp,sg,2,T⟩ a2 c2) qi qi R 87 z.o x GT (C6.one _ _ _) ?_;intro I ah O)|fail)
  try go_frame
  refine bodyPost_ret (v:=C6.val ⟨fs,nx,cp,sg,2,T⟩ a2 c2) qI rfl ?_;exact X8
 by_cases Y:(fs.length:Int)=cp
 .have HE:=Aa (show Cf fs nx cp sg d vs=⟨fs,nx,cp,sg,3,0⟩ by unfold Cf;rw[k,if_neg u,if_pos Y]);have aU:((fs.length:Int)==cp)=true:=qU;clear k;go_wp2_with (first|(refine EH qi 87 (.tmp 6) (.tmp 43) qi (w.heap.size+1) (C6.cells ⟨fs,nx,cp,sg,3,0⟩ a2 c2) qi qi R 87 z.o x GT (C6.one _ _ _) ?_;intro I ah O)|fail)
  try go_frame
  refine bodyPost_ret (v:=C6.val ⟨fs,nx,cp,sg,3,0⟩ a2 c2) qI rfl ?_;exact X8
 have aU:((fs.length:Int)==cp)=false:=qU;by_cases p:1000000<nx
 .have HE:=Aa (show Cf fs nx cp sg d vs=⟨fs,nx,cp,sg,4,0⟩ by unfold Cf;rw[k,if_neg u,if_neg Y,if_pos p]);clear k;go_wp2_with (first|(refine EH qi 87 (.tmp 6) (.tmp 49) qi (w.heap.size+1) (C6.cells ⟨fs,nx,cp,sg,4,0⟩ a2 c2) qi qi R 87 z.o x GT (C6.one _ _ _) ?_;intro I ah O)|fail)
  try go_frame
  refine bodyPost_ret (v:=C6.val ⟨fs,nx,cp,sg,4,0⟩ a2 c2) qI rfl ?_;exact X8
 have HE:=Aa (show Cf fs nx cp sg d vs=⟨fs++[⟨nx,d,vs⟩],nx+1,cp,sg,0,nx⟩ by unfold Cf;rw[k,if_neg u,if_neg Y,if_neg p]);clear k;go_wp2_with (first|fail);refine(jU a2 c2 fs aW nx cp sg d sa s vs _ m.heap.size w3 af.o.ds (λb hb=>hb.2.1) aF hl aJ qd qd qd).ac ?_;rintro e w5 ⟨⟨C,B,rfl,aN,aB⟩,Z⟩;have aQ:=Aa ((Z.block (w.heap.size+1) aV).j z.o);go_wp2_with (first|(refine EH qi 87 (.tmp 6) (.tmp 53) qi (w.heap.size+1) (C6.cells ⟨fs++[⟨nx,d,vs⟩],nx+1,cp,sg,0,nx⟩ C B) qi qi R 87 aQ.o x GT (C6.one _ _ _) ?_;intro I ah O)|fail)
 try go_frame
 refine bodyPost_ret (v:=C6.val ⟨fs++[⟨nx,d,vs⟩],nx+1,cp,sg,0,nx⟩ C B) qI rfl ?_;rw[HE.o];refine⟨⟨C,B,rfl,?_,by rw[yR];exact aB⟩,(ao.j (Z.ac G.size)).j (O.o.J qd)⟩;exact(aN.kept (λb hz _=>O.o.block b Ty)).ac (λb hz=>Ty)
def zkM(a c fs nx cp sg d sa g vs w)(hv:BC w a fs)(O:Bj w sa vs)(i:fs.length<=c)(hl:fs.length<=1048576)(j:∀f∈fs,AV f)(Y:d.size<=maxLen)(m:vs.length<=1048576)(k:∀v∈vs,v.av.size<=maxLen) :
  Ca 60 #[.agg #[.slice a fs.length c,I6 nx,I6 cp,.bool sg],.string d,.slice sa vs.length g] w λe w'=>
   (∃l n,e=.returned ((De fs nx cp sg d vs).val l n)/\DD (λb=>w.heap.size<=b) w' l (De fs nx cp sg d vs).fs/\(De fs nx cp sg d vs).fs.length<=n)/\Bw w w':=by
 cases h:(Cg fs nx cp sg&&(Aw d.data.toList&&C4 vs))
 .rw[RZ h];exact zmO a c fs nx cp sg d sa g vs w hv O i hl j Y m k h
 simp only[yk]at h;rw[RG h.1 h.2.1 h.2.2];exact wh a c fs nx cp sg d sa g vs w hv O i hl j Y m k h.1 h.2.1 h.2.2
end
def ZP(fs:List F)(i:Nat):ByteArray:=match fs[i]? with|some f=>f.ak|none=>ByteArray.empty
def JQ(fs:List F)(nx cp:Int)(sg:Bool)(tag:Int)(cls:ByteArray)(vs:List V)(i:Nat):C6:=
 if 0<EE sg tag cls vs fs then⟨fs,nx,cp,sg,2,EE sg tag cls vs fs⟩ else if 1000000<nx then⟨fs,nx,cp,sg,4,0⟩ else⟨fs.eraseIdx i++[⟨nx,cls,vs⟩],nx+1,cp,sg,0,nx⟩
def BS(fs:List F)(nx cp:Int)(sg:Bool)(tag:Int)(vs:List V):C6:=
 if Cg fs nx cp sg&&C4 vs then(match AD tag fs with|none=>⟨fs,nx,cp,sg,5,0⟩|some i=>JQ fs nx cp sg tag (ZP fs i) vs i) else C6.bad
def Sa{fs nx cp sg tag vs}(h:(Cg fs nx cp sg&&C4 vs)=false):BS fs nx cp sg tag vs=C6.bad:=by unfold BS;rw[h];rfl
def Sl{fs nx cp sg tag vs}(b:Cg fs nx cp sg=true)(a:C4 vs=true)(c:AD tag fs=none):BS fs nx cp sg tag vs=⟨fs,nx,cp,sg,5,0⟩:=by unfold BS;rw[b,a,c];rfl
def Sr{fs nx cp sg tag vs i f}(b:Cg fs nx cp sg=true)(a:C4 vs=true)(d:AD tag fs=some i)(c:fs[i]?=some f):BS fs nx cp sg tag vs=JQ fs nx cp sg tag f.ak vs i:=by
 unfold BS ZP;rw[b,a,d];simp only[KK,if_true,c]
def ku{fs nx cp sg tag T a vs i}(b:EE sg tag a vs fs=T)(c:0<T):JQ fs nx cp sg tag a vs i=⟨fs,nx,cp,sg,2,T⟩:=by
 unfold JQ;rw[b,if_pos c]
def kU{fs nx cp sg tag T a vs i}(b:EE sg tag a vs fs=T)(d:¬0<T)(c:1000000<nx):JQ fs nx cp sg tag a vs i=⟨fs,nx,cp,sg,4,0⟩:=by
 unfold JQ;rw[b,if_neg d,if_pos c]
def kC{fs nx cp sg tag T a vs i}(b:EE sg tag a vs fs=T)(d:¬0<T)(c:¬1000000<nx):JQ fs nx cp sg tag a vs i=⟨fs.eraseIdx i++[⟨nx,a,vs⟩],nx+1,cp,sg,0,nx⟩:=by
 unfold JQ;rw[b,if_neg d,if_neg c]
section
attribute [local go_sem ↓] wp_at_zero wp_at_succ
def iy(a c fs xs nx cp sg f sa A base w)(q:Bp w base (.slice a fs.length c) fs.length fs xs)(aH:Bj w sa f.ad)(hl:fs.length<=1048576)(aB:f.ad.length<=1048576)(hbase:base<=w.heap.size)(h1:0<=f.tag)(L:f.tag<=1000000) :
  Ca 218 #[.agg #[.slice a fs.length c,I6 nx,I6 cp,.bool sg],.agg #[I6 f.tag,.string f.ak,.slice sa f.ad.length A]] w λe w'=>
   (∃M T aC,e=.returned (C6.val ⟨fs++[f],f.tag+1,cp,sg,0,f.tag⟩ M T)/\Bp w' base (.slice M (fs++[f]).length T) (fs++[f]).length (fs++[f]) aC)/\Below base w w':=by
 have aP:IntKind.i64.wrap (f.tag+1)=f.tag+1:=by rw[yS];omega
 have aO:w.heap.size<w.heap.size+1+1:=qd;obtain⟨s,p,aA⟩:=AQ q (λg(b:(Value.slice a fs.length c).ownBlock=some g)=>(q.own.lt g b).2) (λg(b:Pc (.slice a fs.length c) xs g)=>q.range b);clear q;go_enter func218,ntmps218;go_wp2_with fail
 go_region_law (first|(go_simp;go_at_call 259;refine(mT f sa A _ (aH.J ?_) aB).ac ?_;exact Ba.drew;rintro e m ⟨⟨E,G,rfl,K⟩,O⟩;obtain⟨n,r⟩:=e_ O;have x:=Aa K;clear K;have t:=Aa ((s.o.J Ba.drew).J O);have ay:w.heap.size+1+1<m.heap.size:=yh qe O.size;have az:w.heap.size+1<m.heap.size:=qd;have aD:w.heap.size<m.heap.size:=qd)|(refine IY qi (.tmp 6) (.tmp 9) 25 qi base 145 _ 3 48 underlying25 Oe qi qd _ fs.length _ qi (t.o.own.alloc _) (some ⟨m.heap.size,0,none⟩) 1 1 qi (A_ f (.slice E f.ad.length G)) qi (λe=>qp) (by exact OK _ _ _) (OP _ _ _ _) qm qd (by have L:=O.size;simp at L⊢;omega) ?_;intro C D w2 Z Y I;obtain⟨B,R⟩:=Qa Y.o p.o w.heap.size AA aD;obtain⟨H,z⟩:=Qa Y.o p.o (w.heap.size+1) qd az;obtain⟨N,U⟩:=Qa Y.o p.o (w.heap.size+1+1) qd ay;have aM:=λj=>(B j).j (n w.heap.size j qg);have aN:=λj=>(R j).j (r w.heap.size j qg);have aL:=λj=>(H j).j (n (w.heap.size+1) j qe);have aQ:=λj=>(z j).j (r (w.heap.size+1) j qe);have aE:=λj=>(N j).j (n (w.heap.size+1+1) j qe);have aK:=λj=>(U j).j (r (w.heap.size+1+1) j qe);clear B R H z N U n r)|fail)
 all_goals
  have l:=x.o;have hS:=(t.o.J Af).snoc ⟨l.1,(DT l.2 qg).alloc _⟩ (Su s.o.own l.2 qg) (λy d=>by
    obtain⟨f',_,aG⟩:=s.o.bL d;exact Su aG l.2 qg) Z.o Y.o I.o
  have W:=Aa hS;clear hS l;go_wp2;have k:(fs++[f]).length=fs.length+1:=qe;refine bodyPost_ret (v:=C6.val ⟨fs++[f],f.tag+1,cp,sg,0,f.tag⟩ C D) (by simp[results,results218,go_sem,aE,C6.val]) rfl ⟨⟨C,D,xs++[.slice E f.ad.length G],rfl,?_⟩,?_⟩
  .rw[k];refine W.o.kept ?_;intro g b;have i:g≠w.heap.size/\g≠w.heap.size+1+1:=by
    rcases b with b|⟨y,d,b⟩
    .rcases I.o with e|e
     .have:=p.o g (e.ai.j b);omega
     have:=e.ai.j b;simp at this;omega
    rcases yr.1 d with d|d
    .have:=(aA.o g (.inr ⟨y,d,b⟩)).2;omega
    simp at d;subst d;have:=(x.o.2.lt g b).1;simp at this;omega
   have k1:∀(v:World)o u,(v.setCell ⟨w.heap.size,o,none⟩ u).heap[g]?=v.heap[g]?:=λv o u=>Yb _ _ _ _ i.1;have k2:∀(v:World)o u,(v.setCell ⟨w.heap.size+1+1,o,none⟩ u).heap[g]?=v.heap[g]?:=λv o u=>Yb _ _ _ _ i.2;simp only[k1,k2]
  have aI:Below base w m:=(Ba.drew.j (O.ac qg)).ac hbase;have aF:Below base w w2:=(aI.alloc qd _).grown Y.o qg (λj hj=>(t.o.own.lt j hj).1);exact(((((((aF.setCell qg _).setCell qg _).setCell qg _).setCell qg _).setCell qg _).setCell qg _).setCell qg _).setCell qg _
end
end Go.Proofs.YtikojfajahnhgaaGreat
