import Derived.Test.YtikojfajahnhgaaGreatShf
import Derived.Test.YtikojfajahnhgaaGreatKbk
import Derived.Shelf.SlSortCmp.WholeK
set_option linter.all false
set_option maxHeartbeats 3200000
set_option maxRecDepth 100000
namespace Go.Proofs.YtikojfajahnhgaaGreat
attribute [local simp] At I6 Pn mzI
attribute [local go_sem] At I6 Pn
open Go.RowKit Go.Proofs.Tryz
section
attribute [local go_sem ↓] wp_at_zero wp_at_succ
def iS(x y w):Ca 165 #[I6 x,I6 y] w λe w'=>e=.returned (I6 (Lib.compareInt x y))/\w'=w:=AnyG.cmp_Compare_int cmpI x y w
def Nm{a b}(h:b=a):Ending.returned (I6 a)=.returned (I6 b):=by rw[h]
def z_{xs ys:List Int}{k x y}(a:xs[k]?=some x)(b:ys[k]?=some y):Az (xs.drop k) (ys.drop k)=if Lib.compareInt x y=0 then Az (xs.drop (k+1)) (ys.drop (k+1)) else Lib.compareInt x y:=by
 rw[Ck a,Ck b,Az]
def Te{P:Prop}(h:P:=by
 go_wp2_with fail;go_ret;exact⟨Nm (by rw[HG.o,HE.o]),rfl⟩
 ):P:=h
def znA(a n c B xs ys w){q q'}(hv:Bf q w a xs)(s:Bf q' w n ys)(hl:xs.length<=1048576)(z:ys.length<=1048576) :
  Ca 166 #[.slice a xs.length c,.slice n ys.length B] w λe w'=>e=.returned (.int .i64 (Az xs ys))/\w'=w:=by
 go_enter func166,ntmps166;go_wp2
 go_loopw [11] (λi wr=>∃(k:Nat),k<=xs.length/\k<=ys.length/\i=.int .i64 k/\Az xs ys=Az (xs.drop k) (ys.drop k)/\wr=w) (mz xs.length)
 case atStart=>exact⟨0,qd,qd,rfl,rfl,rfl⟩
 case round=>
  obtain⟨k,G,J,rfl,p,rfl⟩:=hrel;have HG:=Aa p;clear p;by_cases u:k<xs.length
  .obtain⟨x,g⟩:=AJ u;obtain⟨b,o,rfl,D,I⟩:=hv.get g;by_cases O:k<ys.length
   .obtain⟨y,Y⟩:=AJ O;obtain⟨H,o',rfl,C,E⟩:=s.get Y;obtain⟨m,f⟩:=Ak (z_ g Y) (iS x y);by_cases d:Lib.compareInt x y=0
    .have t:=Aa d;rw[d]at f;clear d;go_wp2_with (go_at_call 165;refine(f.o _).ac ?_;rintro e w' ⟨rfl,rfl⟩);go_roundw
     case rel=>exact⟨k+1,qd,qd,ql,by rw[HG.o,m.o,if_pos t.o],by first|trivial|rfl⟩
     case measure=>(simp;omega)
    obtain⟨r,j⟩:∃r,Lib.compareInt x y=r:=⟨_,rfl⟩
    rw[j]at f d;obtain⟨A,v⟩:=Ak j d;clear j;go_wp2_with (go_at_call 165;refine(f.o _).ac ?_;rintro e w' ⟨rfl,rfl⟩);go_ret;exact⟨Nm (by rw[HG.o,m.o,A.o,if_neg v.o]),rfl⟩
   have K:ys.length=k:=qd;have HE:=Aa (show Az (xs.drop k) (ys.drop k)=1 from by rw[Ck g,(yD qd:ys.drop k=[])];rfl);exact Te
  by_cases O:k<ys.length
  .obtain⟨y,Y⟩:=AJ O;have HE:=Aa (show Az (xs.drop k) (ys.drop k) = -1 from by rw[Ck Y,(yD qd:xs.drop k=[])];rfl);have l:(xs.length:Int)<(ys.length:Int):=qd;exact Te
  have HE:=Aa (show Az (xs.drop k) (ys.drop k)=0 from by rw[(yD qd:xs.drop k=[]),(yD qd:ys.drop k=[])];rfl);have l:¬(xs.length:Int)<(ys.length:Int):=qd;exact Te
def vt{xs:List Int}{k x}(a:xs[k]?=some x):Ip (xs.drop k)=if x=0 then Ip (xs.drop (k+1)) else x:=by
 rw[Ck a,Ip]
def re(a c xs w){q}(hv:Bf q w a xs)(hl:xs.length<=1048576) :
  Ca 164 #[.slice a xs.length c] w λe w'=>e=.returned (.int .i64 (Ip xs))/\w'=w:=by
 go_enter func164,ntmps164;go_wp2
 go_loopw [8] (λi wr=>∃(k:Nat),k<=xs.length/\i=.int .i64 k/\Ip xs=Ip (xs.drop k)/\wr=w) (mz xs.length)
 case atStart=>exact⟨0,qd,rfl,rfl,rfl⟩
 case round=>
  obtain⟨k,n,rfl,g,rfl⟩:=hrel;have HG:=Aa g;clear g;by_cases Y:k<xs.length
  .obtain⟨x,O⟩:=AJ Y;obtain⟨b,o,rfl,l,m⟩:=hv.get O;have d:=Aa (vt O);by_cases f:x=0
   .subst f;go_wp2_with fail;go_roundw
    case rel=>exact⟨k+1,qd,ql,by rw[HG.o,d.o,if_pos rfl],by first|trivial|rfl⟩
    case measure=>(simp;omega)
   have j:=Aa f;go_wp2_with fail;go_ret;exact⟨Nm (by rw[HG.o,d.o,if_neg j.o]),rfl⟩
  have HE:=Aa (show Ip (xs.drop k)=0 from by rw[yD qd];rfl);exact Te
end
section
open Go.Sort Go.Lib Go.Shelf
attribute [local go_sem ↓] wp_at_zero wp_at_succ

end
section
attribute [local go_sem ↓] wp_at_zero wp_at_succ
def uX(w:World)(xs ty):Bf none (w.alloc (.cells (xs.map (Value.int .i64)).toArray ty)) (some ⟨w.heap.size,0,none⟩) xs:=by
 intro i s a;refine⟨w.heap.size,0,[I6 s],rfl,Qb.bare _ _ _,rfl,?_,rfl⟩;intro j v hj;have O:j=0:=by
  exact Ti
 subst O;simp at hj;subst hj;simp[a]
def ye(w:World)(g r1 r2 ty)(b:g=w.heap.size):Bf none (w.alloc (.cells #[I6 r1,I6 r2] ty)) (some ⟨g,0,none⟩) [r1,r2]:=by
 subst b;exact uX w [r1,r2] ty
def zkO(x y:In)(a b c d w){q q'}(A:Bf q w a x.al)(u:Bf q' w b y.al)(hl:x.al.length<=1048576)(m:y.al.length<=1048576) :
  Ca 101 #[.agg #[I6 x.au,.slice a x.al.length c],.agg #[I6 y.au,.slice b y.al.length d]] w λe w'=>
   e=.returned (I6 (Ip [Lib.compareInt x.au y.au,Az x.al y.al]))/\Bw w w'/\∃n H,w'=Go.Sort.grow (w.drewN n) H:=by
 have k:∀o o',Bw w (((w.alloc o).alloc o').drew):=λo o'=>(Af.alloc qe _).drew;obtain⟨B,E,s⟩:=AQ (λo o'=>A.J (k o o')) (λo o'=>u.J (k o o')) (iS x.au y.au);obtain⟨rx,t⟩:∃r,Lib.compareInt x.au y.au=r:=⟨_,rfl⟩
 obtain⟨ry,p⟩:∃r,Az x.al y.al=r:=⟨_,rfl⟩
 have z:=Aa (λw'(I:Bf q w' a x.al)(D:Bf q' w' b y.al)=>znA a b c d x.al y.al w' I D hl m);have G:=Aa (λw' g ty(C:g=w'.heap.size)=>(show Ca 164 #[.slice (some ⟨g,0,none⟩) 2 2] ((w'.alloc (.cells #[I6 rx,I6 ry] ty)).drew) _ from re (some ⟨g,0,none⟩) 2 [rx,ry] _ ((ye w' g rx ry ty C).J (Aj.drew)) qe));rw[t]at s⊢;rw[p]at z⊢;clear t p A u;go_enter func101,ntmps101;go_wp2;refine wp_region_noPanic ?_;refine wp_region_held_drew (S:=(λw'=>At w' w.heap.size 0 (I6 x.au)/\At w' w.heap.size 1 (.slice a x.al.length c)/\At w' (w.heap.size+1) 0 (I6 y.au)/\At w' (w.heap.size+1) 1 (.slice b y.al.length d))) qf ?_ (λhHeld=>?_)
 ·(try dsimp only);(go_split_ands;refine⟨?_,?_,?_,?_⟩<;>first|(simp[*];done))
 refine wpAnyH_take (i:=0) (oi:=?oi1) (v:=?v1) ?hi1 qf qf qf (λ_ _ _ h=>h) (Or.inl ⟨?wd1,?hy1⟩) hHeld ?rest1
 case hi1=>(simp only[yj,yC];rfl)
 case wd1=>rfl
 case hy1=>(intro w O;(try dsimp only at O);go_simp;try with_reducible rfl)
 (try simp only[Act.put,yq,yI,yG]);refine wpAnyH_take (i:=1) (oi:=?oi2) (v:=?v2) ?hi2 qf qf qf (λ_ _ _ h=>h) (Or.inl ⟨?wd2,?hy2⟩) hHeld ?rest2
 case hi2=>(simp only[yj,yw,yC];rfl)
 case wd2=>rfl
 case hy2=>(intro w O;(try dsimp only at O);go_simp;try with_reducible rfl)
 (try simp only[Act.put,yq,yI,yG]);refine wpAnyH_take (i:=2) (oi:=?oi3) (v:=?v3) ?hi3 qf qf qf (λ_ _ _ h=>h) (Or.inl ⟨?wd3,?hy3⟩) hHeld ?rest3
 case hi3=>(simp only[yj,yw,yC];rfl)
 case wd3=>rfl
 case hy3=>(intro w O;(try dsimp only at O);go_simp;try with_reducible rfl)
 (try simp only[Act.put,yq,yI,yG]);refine wpAnyH_take (i:=3) (oi:=?oi4) (v:=?v4) ?hi4 qf qf qf (λ_ _ _ h=>h) (Or.inl ⟨?wd4,?hy4⟩) hHeld ?rest4
 case hi4=>(simp only[yj,yw,yC];rfl)
 case wd4=>rfl
 case hy4=>(intro w O;(try dsimp only at O);go_simp;try with_reducible rfl)
 (try simp only[Act.put,yq,yI,yG]);refine wpAnyH_take (i:=5) (oi:=?oi5) (v:=?v5) ?hi5 qf qf qf (λ_ _ _ h=>h) (Or.inl ⟨?wd5,?hy5⟩) hHeld ?rest5
 case hi5=>(simp only[yj,yw,yC];rfl)
 case wd5=>rfl
 case hy5=>(intro w O;(try dsimp only at O);go_simp;try with_reducible rfl)
 (try simp only[Act.put,yq,yI,yG]);refine wpAnyH_take (i:=6) (oi:=?oi6) (v:=?v6) ?hi6 qf qf qf (λ_ _ _ h=>h) (Or.inl ⟨?wd6,?hy6⟩) hHeld ?rest6
 case hi6=>(simp only[yj,yw,yC];rfl)
 case wd6=>rfl
 case hy6=>(intro w O;(try dsimp only at O);go_simp;try with_reducible rfl)
 (try simp only[Act.put,yq,yI,yG]);refine wpAnyH_take (i:=7) (oi:=?oi7) (v:=?v7) ?hi7 qf qf qf (λ_ _ _ h=>h) (Or.inl ⟨?wd7,?hy7⟩) hHeld ?rest7
 case hi7=>(simp only[yj,yw,yC];rfl)
 case wd7=>rfl
 case hy7=>(intro w O;(try dsimp only at O);go_simp;try with_reducible rfl)
 (try simp only[Act.put,yq,yI,yG]);refine wpAnyH_take (i:=8) (oi:=?oi8) (v:=?v8) ?hi8 qf qf qf (λ_ _ _ h=>h) (Or.inl ⟨?wd8,?hy8⟩) hHeld ?rest8
 case hi8=>(simp only[yj,yw,yC];rfl)
 case wd8=>rfl
 case hy8=>(intro w O;(try dsimp only at O);go_simp;try with_reducible rfl)
 (try simp only[Act.put,yq,yI,yG]);refine r1 4 λK f=>?_;go_simp;(go_at_call 165;refine(s.o _).ac ?_;rintro e L ⟨rfl,rfl⟩);(try go_wp2_with fail);refine f.o _ _ (by(try dsimp only);(go_split_ands;refine⟨?_,?_,?_,?_⟩<;>first|assumption)) λY=>?_;replace hHeld:=Y;clear f K Y;(try simp only[Act.put,yq,yI,yG]);refine r1 9 λK f=>?_;go_simp;(go_at_call 166;refine(z.o _ (B.o _ _) (E.o _ _)).ac ?_;rintro e N ⟨rfl,rfl⟩);(try go_wp2_with fail);refine f.o _ _ (by(try dsimp only);(go_split_ands;refine⟨?_,?_,?_,?_⟩<;>first|assumption)) λY=>?_;replace hHeld:=Y;clear f K Y;(try simp only[Act.put,yq,yI,yG]);refine r1 10 λK f=>?_;go_simp;refine f.o _ _ (by(try dsimp only);(go_split_ands;refine⟨?_,?_,?_,?_⟩<;>first|exact zab Af qj)) λY=>?_;replace hHeld:=Y;clear f K Y;(try simp only[Act.put,yq,yI,yG]);refine r1 11 λK f=>?_;go_simp;(go_at_call 164;refine(G.o _ _ _ qe).ac ?_;rintro e M ⟨rfl,rfl⟩);(try go_wp2_with fail);refine f.o _ _ (by(try dsimp only);(go_split_ands;refine⟨?_,?_,?_,?_⟩<;>first|assumption)) λY=>?_;replace hHeld:=Y;clear f K Y;(try simp only[Act.put,yq,yI,yG]);refine wpAnyH_take (i:=12) (oi:=?oi17) (v:=?v17) ?hi17 qf qf qf (λ_ _ _ h=>h) (Or.inl ⟨?wd17,?hy17⟩) hHeld ?rest17
 case hi17=>(simp only[yj,yw,yC];rfl)
 case wd17=>rfl
 case hy17=>(intro w O;(try dsimp only at O);go_simp;try with_reducible rfl)
 (try simp only[Act.put,yq,yI,yG]);refine wpAnyH_done qf ?_ _;refine Yf ?_;go_wp2;go_ret;exact⟨rfl,((k _ _).alloc (k _ _).size _),1,#[_,_,_],by rw[KE,KE w,KE (Go.Sort.grow w _),Go.Sort.grow_grow];exact Go.Sort.grow_grow (w.drewN 1) _ _⟩
end
section
open Go.Sort Go.Lib Go.Shelf
attribute [local go_sem ↓] wp_at_zero wp_at_succ
def BJ(x y:It):Int:=Ip [Lib.compareInt x.au y.au,Az x.al y.al]
def Oj(x y):BJ x y=if Lib.compareInt x.au y.au=0 then Az x.al y.al else Lib.compareInt x.au y.au:=by
 have O:∀x:Int,Ip [x]=x:=λx=>by simp only[Ip];split<;>omega
 show(if _=0 then Ip [_] else _)=_;rw[O]
def N5:EN BJ:=by
 have h:=(rK.map It.au).or (rc.map It.al);have e:BJ=λa b:It=>if Lib.compareInt a.au b.au=0 then Az a.al b.al else Lib.compareInt a.au b.au:=by
  funext a b
  exact Oj a b
 rw[e];exact h
def RV{x y}(h:BJ x y=0):x=y:=by
 rw[Oj]at h;split at h
 .rename_i O;have b:x.au=y.au:=by rcases Fr x.au y.au with⟨p,q⟩|⟨p,q⟩|⟨p,q⟩<;>omega
  have a:=gA _ _ h;cases x;cases y;simp_all
 rename_i O;exact absurd h O
def p_(w:World)(g:Nat)(x:Eh):Prop:=x.1.al.length<=3/\∃a c,x.2=.slice a x.1.al.length c/\∀(i:Nat)(s:Int),x.1.al[i]?=some s->∃b o,a=some ⟨b,o,none⟩/\b≠g/\w.cell? ⟨b,o+i,none⟩=some (.int .i64 s)
abbrev Ix(w:World)(g:Nat):={x:Eh // p_ w g x}
def ixD(w:World)(g:Nat):Ix w g:=⟨(⟨0,[]⟩,.slice none 0 0),qe,none,0,rfl,λi s h=>by simp at h⟩
def GJ{w:World}{g:Nat}(x:Ix w g):List Value:=Dk x.1
def ZA{w:World}{g:Nat}(x y:Ix w g):Int:=BJ x.1.1 y.1.1
def r_(w g):SWO (ltOf (ZA (w:=w) (g:=g))):=by
 have h:=N5.map (λx:Ix w g=>x.1.1);refine⟨λx=>?_,λx y z b a=>?_,λx y z b a=>?_⟩
 .have e:BJ x.1.1 x.1.1 =-BJ x.1.1 x.1.1:=h.swap x x;exact decide_eq_false (show¬BJ x.1.1 x.1.1<0 by omega)
 .have c:BJ x.1.1 y.1.1<0:=of_decide_eq_true b;have d:BJ y.1.1 z.1.1<0:=of_decide_eq_true a;exact decide_eq_true (h.lt x y z (show BJ x.1.1 y.1.1<=0 by omega) (show BJ y.1.1 z.1.1<=0 by omega) (.inl c))
 have c:¬BJ x.1.1 y.1.1<0:=of_decide_eq_false b;have d:¬BJ y.1.1 z.1.1<0:=of_decide_eq_false a;have f:BJ y.1.1 x.1.1 =-BJ x.1.1 y.1.1:=h.swap x y;have j:BJ z.1.1 y.1.1 =-BJ y.1.1 z.1.1:=h.swap y z;have i:BJ z.1.1 x.1.1 =-BJ x.1.1 z.1.1:=h.swap x z;have O:BJ z.1.1 x.1.1<=0:=h.le z y x (show BJ z.1.1 y.1.1<=0 by omega) (show BJ y.1.1 x.1.1<=0 by omega);exact decide_eq_false (show¬BJ x.1.1 z.1.1<0 by omega)
def g9{w a xs}(h:∀(i:Nat)(s:Int),xs[i]?=some s->∃b o,a=some ⟨b,o,none⟩/\At w b (o+i) (I6 s)):Bf none w a xs:=by
 intro i s d;obtain⟨b,o,e,c⟩:=h i s d;refine⟨b,o,[I6 s],e,Qb.bare _ _ _,rfl,?_,rfl⟩;intro j v hj;have O:j=0:=by
  exact Ti
 subst O;simp at hj;subst hj;simpa using c
def sC(w g size)[Inhabited (Ix w g)]:CmpLays prog 101 #[] (GJ (w:=w) (g:=g)) 2 ZA g 0 size w:=by
 intro m z O _ x y;have t:∀(b o:Nat)(v:Value),b≠g->w.cell? ⟨b,o,none⟩=some v->(sortWorldK (GJ (w:=w) (g:=g)) 2 w g 0 m O z).cell? ⟨b,o,none⟩=some v:=λb o v D hv=>by
  have n:b<w.heap.size:=yZ w ⟨b,o,none⟩ hv;unfold sortWorldK;have C:(grow (putRowK (GJ (w:=w) (g:=g)) 2 (Sort.ahead w m) g 0 O) z).heap[b]?=(putRowK (GJ (w:=w) (g:=g)) 2 (Sort.ahead w m) g 0 O).heap[b]?:=heap_grow_old _ _ (by simpa[putRowK] using n);rw[y8 (w:=putRowK (GJ (w:=w) (g:=g)) 2 (Sort.ahead w m) g 0 O) C];exact(cell?_putRow_other id (Sort.ahead w m) g 0 (flatK (GJ (w:=w) (g:=g)) 2 O) ⟨b,o,none⟩ (Or.inl D)).j hv
 obtain⟨⟨x1,E⟩,Y,a,c,r,A⟩:=x;obtain⟨⟨k,G⟩,hy3,b,d,u,B⟩:=y;simp only at r u;subst r;subst u;refine(show Ca 101 #[.agg #[.int .i64 x1.au,.slice a x1.al.length c],.agg #[.int .i64 k.au,.slice b k.al.length d]] _ _ from zkO ⟨x1.au,x1.al⟩ ⟨k.au,k.al⟩ a b c d _ (g9 λi s l=>?_) (g9 λi s l=>?_) (by simp only at Y⊢;omega) (by simp only at hy3⊢;omega)).ac λe w' q=>⟨q.1,q.2.2⟩
 .obtain⟨p,o',e,f,hv⟩:=A i s l;exact⟨p,o',e,t _ _ _ f hv⟩
 obtain⟨p,o',e,f,hv⟩:=B i s l;exact⟨p,o',e,t _ _ _ f hv⟩
def Fh(L:List It):Prop:=L.Pairwise λx y=>BJ x y<=0
def rU(w):(isAgg 45).run prog w=.ok true w:=isAgg45 w
def sF(w):(Go.sizeOf 45).run prog w=.ok 2 w:=sizeOf45 w
def kj{α}[Inhabited α](enc)(a:∀x,(enc x).length=2)(l:List α):(flatK enc 2 l.toArray).toList=l.flatMap enc:=by
 apply YM;intro t;by_cases ht:t<l.length*2
 .have f:(flatK enc 2 l.toArray).toList[t]?=some ((enc l.toArray[t/2]!)[t%2]!):=by
   rw[Yq,<-get_flatK enc 2 l.toArray t NB];have:t<(flatK enc 2 l.toArray).size:=NB;rw[getElem!_pos _ t this];simp
  have hl:t/2<l.length:=qd;have e:l[t/2]?=some (l[t/2]'hl):=K2;have c:t%2<(enc l[t/2]).length:=by rw[a];omega
  have b:=Ig (cells:=enc) (m:=2) a l (t/2) l[t/2] (t%2) ((enc l[t/2])[t%2]) e (by simp[c]);rw[show t/2*2+t%2=t by omega]at b;rw[f,b];have d:l.toArray[t/2]! =l[t/2]:=K2;rw[d,getElem!_pos (enc (l[t/2]'hl)) (t%2) c]
 have:(l.flatMap enc).length=l.length*2:=by
  rw[List.length_flatMap];have key:∀l:List α,(l.map λx=>(enc x).length).sum=l.length*2:=λl=>by
   induction l with
   |nil=>rfl
   |cons x l O=>rw[yn,YN,O,a,yH];omega
  exact key l
 rw[Yr (show(flatK enc 2 l.toArray).toList.length<=t by simp;omega),Yr (show(l.flatMap enc).length<=t by omega)]
def ue{w g n d O e a}(F)(b:w.heap[g]?=some (.cells O e a)):(grow (putRow id (Sort.ahead w n) g 0 F) d).heap[g]?=some (.cells (putCells id 0 F O) e a):=by
 have c:g<w.heap.size:=(ym.1 b).1;rw[heap_grow_old _ _ (by simpa using c)];simp[putRow,mapBlock,Sort.ahead,Y6,b,onCells]
def kI{w:World}{g n b}(F):w.grownBy (grow (putRow id (Sort.ahead w n) g 0 F) b) (some g):=by
 refine⟨rfl,rfl,rfl,qe,λk hk a=>?_⟩;rw[heap_grow_old _ _ QD];have:g≠k:=λe=>a H4;simp[putRow,mapBlock,Sort.ahead,Y6,this]
def um(O F)(h:F.size<=O.size):(putCells id 0 F O).toList.take F.size=F.toList:=by
 apply YM;intro j;by_cases hj:j<F.size
 .rw[Wl hj,Yq,Yq];simp[putCells,hj,show j<O.size by omega]
 rw[List.getElem?_take_eq_none qd,Yr qg]
def xT{α}[Inhabited α]{a}{l:List α}{d}(m:PermIn 0 l.toArray.size l.toArray d)(b:SortedIn a 0 l.toArray.size d):d.toList.Perm l/\d.toList.Pairwise (λx y=>a y x=false):=by
 obtain⟨hz,_,O⟩:=m;have e:d.size=l.length:=NA;have k:d.extract 0 l.toArray.size=d:=by rw[<-hz];exact Array.extract_size
 have f:l.toArray.extract 0 l.toArray.size=l.toArray:=Array.extract_size;rw[k,f]at O;refine⟨O,?_⟩;rw[YT];intro i j hi hj c;have h:=b i j (yA _) c (by simpa[e] using hj);have Y:i<d.size:=OX;have g:j<d.size:=QE;rw[getElem!_pos d i Y,getElem!_pos d j g]at h;simpa using h
def fR(b1 base:Nat)(a:Option Addr)(c:Nat)(L:List Eh)(w:World)(e:Ending)(w':World):Prop:=e=.returned (.tuple #[])/\∃L',L'.Perm L/\Fh (L'.map Prod.fst)/\Iw w' b1 base a c L'/\w.grownBy w' (Value.slice a L.length c).ownBlock
def yo(g c J base L w)(h:Iw w J base (some ⟨g,0,none⟩) c L)(T:∀x∈L,x.1.al.length<=3)(hl:L.length<=4000000000) :
  Ca 100 #[.slice (some ⟨g,0,none⟩) L.length c,.func (.func 101) #[] #[]] w (fR J base (some ⟨g,0,none⟩) c L w):=by
 rcases h.row.2 with⟨e,_⟩|⟨g',cap,av,e,aq,O,R,ay,K,aw⟩
 .cases e
 simp only[Y4,Y5,Addr.mk.injEq,and_true]at e;obtain⟨rfl,_,rfl⟩:=e;have au:∀x∈L,p_ w g x:=λx H=>by
  obtain⟨⟨I,N,r⟩,A⟩:=h.all x H;refine⟨T x H,I,N,r,λi s p=>?_⟩;rw[r]at A;obtain⟨b,E,_,hc,_⟩:=CC A (show(Am x.1.al)[i]?=some (I6 s) by simp[Am,p]);refine⟨b,0,E,λq=>?_,qY⟩;obtain⟨c2,C⟩:=A8 A (k:=b) (by rw[E];rfl);rw[q]at C;exact CB O C qh
 letI:Inhabited (Ix w g):=⟨ixD w g⟩
 obtain⟨d,hd⟩:∃d:List (Ix w g),d.map Subtype.val=L:=⟨L.attach.map λy=>⟨y.1,au y.1 y.2⟩,by rw[Yp];exact List.attach_map_subtype_val L⟩
 have m:d.length=L.length:=by rw[<-hd,yp]
 have B:∀l:List (Ix w g),l.flatMap GJ=(l.map Subtype.val).flatMap Dk:=λl=>by
  rw[KF];rfl
 have hH:HoldsK (GJ (w:=w) (g:=g)) 2 w g 0 d.toArray:=by
  intro j hj;have ar:j<L.length*2:=by simpa[m] using hj
  refine⟨?_,QG⟩;have M:(av.toList.take (L.length*2))[j]?=(L.flatMap Dk)[j]?:=by rw[aw]
  rw[Wl ar]at M;have h2:(flatK (GJ (w:=w) (g:=g)) 2 d.toArray).toList[j]?=(L.flatMap Dk)[j]?:=by rw[kj GJ (λ_=>rfl),B,hd]
  have h4:(flatK (GJ (w:=w) (g:=g)) 2 d.toArray)[j]?=some (flatK (GJ (w:=w) (g:=g)) 2 d.toArray)[j]!:=by
   rw[getElem!_pos _ j hj];simp
  simp only[World.cell?,O,Yt];simp only[Option.isSome_none,YE,if_false,id];rw[<-Yq,M,<-h2,Yq,h4]
 have Y:=AnyQ.slices_SortFunc sortN 2 rU sF (GJ (w:=w) (g:=g)) (λ_=>rfl) (λx v hv=>by
  obtain⟨y,_,I,N,r,_⟩:=x;simp only[GJ,Dk,yO,YI,or_false]at hv;rcases hv with rfl|rfl
  .rfl
  rw[r];rfl) ZA (r_ w g) 101 #[] g 0 c d.toArray w (enters_of func101 qf rfl) (sC w g d.toArray.size) hH (ym.1 O).1 (by simp[m];omega)
 rw[show d.toArray.size=L.length from by simpa using m]at Y;change Ca 100 #[.slice (some ⟨g,0,none⟩) L.length c,_] _ _ at Y;refine Y.ac ?_;rintro x w' ⟨rfl,f,n,os,G,p,rfl⟩;rw[<-show d.toArray.size=L.length from by simpa using m]at G p;obtain⟨t,p2⟩:=xT G p;have D:f.size=L.length:=by rw[<-m,<-t.length_eq];simp
 have hF:(flatK (GJ (w:=w) (g:=g)) 2 f).toList=(f.toList.map Subtype.val).flatMap Dk:=by
  rw[<-B,<-kj GJ (λ_=>rfl)]
 have u:(flatK (GJ (w:=w) (g:=g)) 2 f).size=L.length*2:=by simp[D]
 refine⟨rfl,f.toList.map Subtype.val,by rw[<-hd];exact t.map _,?_,⟨?_,λy W=>?_⟩,kI _⟩
 .unfold Fh;rw[Y1,Y1];refine p2.imp λ{a b}q=>?_;have q':¬BJ b.1.1 a.1.1<0:=of_decide_eq_false q;have:=N5.swap a.1.1 b.1.1;show BJ a.1.1 b.1.1<=0;omega
 .have o:(f.toList.map Subtype.val).length=L.length:=by simp[D]
  rw[o];refine⟨by rw[<-hF,Kh,u],.inr ⟨g,c,_,rfl,aq,ue _ O,R,ay,by simp[putCells,K],?_⟩⟩;rw[<-u,um _ _ (by rw[u,K];exact YQ 2 R),hF]
 obtain⟨z,U,rfl⟩:=yz.1 W;have Z:z.1∈L:=by
  rw[<-hd];exact yT (t.mem_iff.1 U)
 exact(h.all z.1 Z).grown (kI _) (λk hk=>by cases hk;exact⟨_,O⟩) qh
def ru(w):Ca 222 #[.slice none 0 0,I6 0,I6 0,.func (.func 101) #[] #[]] w λe w'=>e=.returned (.tuple #[])/\w'=w:=by
 go_enter func222,ntmps222;go_wp2_with fail
 go_loopw [8] (λiv wr=>iv=I6 1/\wr=w) (λ_ _=>0)
 case atStart=>exact⟨rfl,rfl⟩
 case round=>
  obtain⟨rfl,rfl⟩:=hrel;go_wp2_with fail;go_end0;exact⟨rfl,rfl⟩
def tX(w):Ca 162 #[.slice none 0 0,I6 0,I6 0,I6 0,.func (.func 101) #[] #[]] w λe w'=>e=.returned (.tuple #[])/\w'=w:=by
 have a:=Aa (ru w);go_enter func162,ntmps162;go_wp2_with fail
 go_loopw [1,2] (λY O wr=>Y=I6 0/\O=I6 0/\wr=w) (λ_ _ _=>0)
 case atStart=>exact⟨rfl,rfl,rfl⟩
 case round=>
  obtain⟨rfl,rfl,rfl⟩:=hrel;go_wp2_with fail;refine a.o.ac ?_;rintro e w' ⟨rfl,rfl⟩;go_wp2_with fail;exact bodyPost_ret (v:=.tuple #[]) (results_none rfl _ _ _) rfl ⟨rfl,rfl⟩
def r8(w):Ca 163 #[.int .u64 0] w λe w'=>e=.returned (I6 0)/\w'=w:=by
 have h:=Any.bits_Len (SlLaysF0.n15.bits (P:=prog) (ρ:=sortN_ren) { sortN with }) 0 w qd qd;exact h
def th(w):Ca 100 #[.slice none 0 0,.func (.func 101) #[] #[]] w λe w'=>e=.returned (.tuple #[])/\w'=w:=by
 obtain⟨Y,O⟩:=Ak (r8 w) (tX w);go_enter func100,ntmps100;go_wp2_with fail;refine Y.o.ac ?_;rintro e w' ⟨rfl,rfl⟩;go_wp2_with fail;refine O.o.ac ?_;rintro e w' ⟨rfl,rfl⟩;go_wp2_with fail;go_end0;exact⟨rfl,rfl⟩
def lQ(a c b base L w)(h:Iw w b base a c L)(g:∀x∈L,x.1.al.length<=3)(hl:L.length<=4000000000) :
  Ca 100 #[.slice a L.length c,.func (.func 101) #[] #[]] w (fR b base a c L w):=by
 rcases h.row.2 with⟨e,_⟩|⟨O,cap,Y,e,_⟩
 .simp only[Y4]at e;obtain⟨rfl,d,rfl⟩:=e;have f:L=[]:=Y9.1 d;subst f;refine(th w).ac ?_;rintro e w' ⟨rfl,rfl⟩;exact⟨rfl,[],.refl _,List.Pairwise.nil,h,⟨rfl,rfl,rfl,yX _,λ_ _ _=>rfl⟩⟩
 simp only[Y4]at e;obtain⟨rfl,_,_⟩:=e;exact yo O c b base L w h g hl
end
section
attribute [local go_sem ↓] wp_at_zero wp_at_succ

end
abbrev EnX:=In × Value × Value
structure O9(rs:List Ru) (w:World) (base:Nat) (x:EnX):Prop where
 pl:tN rs x.1=true
 r:∃a c,x.2.1=.slice a (Nn x.1.al).length c
 ro:w.ownsRow base 3 1 x.2.1 (Nn x.1.al).length (Am (Nn x.1.al))
 t:∃a c,x.2.2=.slice a x.1.al.length c
 tw:w.ownsRow base 3 1 x.2.2 x.1.al.length (Am x.1.al)
def O9.same{rs w w' base x}(h:O9 rs w base x)(d:∀(k:Nat)c,w.heap[k]?=some (.cells c 3 (0,0))->w'.heap[k]?=w.heap[k]?):O9 rs w' base x:=
 ⟨h.pl,h.r,BZ h.ro (λg a=>by obtain⟨c,b⟩:=A8 h.ro a;exact d g c b),h.t,BZ h.tw (λg a=>by obtain⟨c,b⟩:=A8 h.tw a;exact d g c b)⟩
def O9.ar{rs w w' base x}(h:O9 rs w base x)(a:Bw w w'):O9 rs w' base x:=h.same (λk _ b=>a.block k (As b))
section
attribute [local go_sem ↓] wp_at_zero wp_at_succ
def jn{q w a xs}(h:Bf q w a xs):(a=none->xs.length=0)/\∀c,a=some c->∀(j:Nat)u,(Am xs)[j]?=some u->w.cell? (c.add j)=some u:=by
 constructor
 .rintro rfl;rcases xs with _|⟨x,r⟩
  .rfl
  obtain⟨_,_,e,_⟩:=h.get (i:=0) (x:=x) rfl;cases e
 rintro c rfl j u hu;unfold Am at hu;rw[yx]at hu;obtain⟨x,f,rfl⟩:=Ya.1 hu;obtain⟨b,o,e,_,d⟩:=h.get f;injection e with e;subst e;by_cases hj:j=0
 .subst hj;simpa[Addr.add] using d
 simpa[Addr.add,hj] using d
def zi5(x:In)(p r){q}(w)(N:Bf q w p x.al)(hl:x.al.length<=1048576) :
  Ca 105 #[.agg #[I6 x.au,.slice p x.al.length r]] w λe w'=>(∃L R,e=.returned (.agg #[I6 x.au,.slice L x.al.length R])/\w'.ownsRow w.heap.size 3 1 (.slice L x.al.length R) x.al.length (Am x.al))/\Bw w w':=by
 have HT:=Aa N;clear N;go_enter func105,ntmps105;go_upto_region 2 with fail;refine Bo ?_;intro m C Y af;obtain⟨d,y⟩:∃b,b=w.heap.size:=⟨_,rfl⟩
 obtain⟨c,G⟩:∃b,b=d+1:=⟨_,rfl⟩
 rw[<-y]at Y;rw[<-y]at af;rw[<-G]at af;(try rw[<-y]);(try rw[<-G]);have E:At m d 0 (I6 x.au):=qE;have D:At m d 1 (.slice p x.al.length r):=qE;obtain⟨U,I,Q2⟩:=AQ C (HT.o.J C) af;have s:=C.size;have au:d≠c:=qd;have u:c≠d:=qd;have av:w.heap.size<=c:=qd;have aq:c<m.heap.size:=As af;have B:d<m.heap.size:=As Y;clear C Y af y G;go_wp2_with fail;refine wp_region_noPanic ?_;refine wp_region_held_drew (S:=(λw'=>At w' d 0 (I6 x.au)/\At w' d 1 (.slice p x.al.length r))) qf ?_ (λhHeld=>?_)
 ·(try dsimp only);exact⟨E,D⟩
 refine sr 0 5 ?_;refine wpAnyH_ready (rs:=[5]) qf qe ?_;refine Yi (yj.j rfl) (λK t=>?_) Ys;(refine IY qi (.tmp 6) (.tmp 8) 30 qi m.heap.size 3 _ 1 8 underlying30 MB qi qd _ 0 [] qi (y9 _ _ _ _) p x.al.length r qi (Am x.al) (by simp[Am]) (jn (I.o.J Aj.drew)).1 (jn (I.o.J Aj.drew)).2 (ge _) qm qd AA ?_;intro A z f H O ar);refine t.o _ _ (by(try dsimp only);exact⟨(Jl O.o QI (by simpa using B)).j E,(Jl O.o QI (by simpa using B)).j D⟩) λhHeld=>?_;clear t K;(try simp only[pA,pZ,pS,pN]);have n:f.heap[c]?=some (.cells #[I6 0,.slice none 0 0] 45 (0,0)):=(O.o.block c (by simpa using aq) QI).j Q2.o;have e0:At f c 0 (I6 0):=by simp[World.cell?,n]
 have e1:At f c 1 (.slice none 0 0):=by simp[World.cell?,n]
 have f0:f.frozen? ⟨c,0,none⟩=false:=by simp[World.frozen?,n]
 have f1:f.frozen? ⟨c,1,none⟩=false:=by simp[World.frozen?,n]
 have m0:At f d 0 (I6 x.au):=(Jl O.o QI (by simpa using B)).j E;have m1:At f d 1 (.slice p x.al.length r):=(Jl O.o QI (by simpa using B)).j D;obtain⟨O8,W,M⟩:=AQ (show f.ownsRow m.heap.size 3 1 (.slice A x.al.length z) x.al.length (Am x.al) by have:=H.o;simpa using this) (show Bw w f from U.o.j (((Yw m.heap.size m).drew.grown O.o AA (λg T=>by cases T)).ac s)) n;clear O ar H n;refine sr 6 7 ?_;refine wpAnyH_ready (rs:=[7]) qf qe ?_;refine Yi (yj.j rfl) (λK t=>?_) Ys;go_simp;refine t.o _ _ (by(try dsimp only);exact⟨(WS _ _ _ _ u).j ((WS _ _ _ _ u).j m0),(WS _ _ _ _ u).j ((WS _ _ _ _ u).j m1)⟩) λhHeld=>?_;clear t K;(try simp only[pA,pZ,pS,pN]);refine wpAnyH_done qf ?_ _;refine Yf ?_;have Z:=Aa (DT (RP (x:=.slice A x.al.length z) (o:=1) (RP (x:=I6 x.au) (o:=0) O8.o M.o qh) (Fq (i:=0) M.o (I6 x.au)) qh) s);go_wp2_with fail;refine bodyPost_ret (v:=.agg #[I6 x.au,.slice A x.al.length z]) (by simp[results,results105,go_sem,e0,e1]) rfl ?_;exact⟨⟨A,z,rfl,Z.o⟩,(W.o.setCell qg _).setCell qg _⟩
def Pr:∀(A B C:List Int),Az (A++B) (A++C)=Az B C
 |[],B,C=>rfl
 |a::A,B,C=>by
  have O:=Pr A B C
  rcases Fr a a with⟨p,q⟩|⟨p,q⟩|⟨p,q⟩
  .omega
  .omega
  simpa[Az,q] using O
def rf{xs ys:List Int}{k:Nat}{x y:Int}(h:xs.take k=ys.take k)(b:xs[k]?=some x)(c:ys[k]?=some y)(a:x≠y):Az xs ys=Lib.compareInt x y:=by
 have e:∀{O:List Int}{z:Int},O[k]?=some z->O=O.take k++z::O.drop (k+1):=λ{O z}Y=>by
  obtain⟨hl,rfl⟩:=yf.1 Y;rw[List.getElem_cons_drop];exact(Yz k O).ai
 rw[e b,e c,h,Pr];simp only[Az];rcases Fr x y with⟨p,q⟩|⟨p,q⟩|⟨p,q⟩
 .rw[q];rfl
 .rw[q];rfl
 exact absurd p a
def gC{xs ys:List Int}{k:Nat}(h:xs.take k=ys.take k)(a:xs.length<=k∨ys.length<=k):Az xs ys<0↔xs.length<ys.length:=by
 rcases a with a|a
 focus
  rw[yu a]at h;have e:ys=xs++ys.drop k:=by
   conv=>lhs;rw[<-Yz k ys,<-h]
  have q:Az xs ys=Az [] (ys.drop k):=by
   have:=Pr xs [] (ys.drop k);rwa [yM,<-e]at this
  have l:=congrArg List.length e;rw[yR]at l;rw[q];generalize ys.drop k=D at l
 rotate_left
 focus
  rw[yu a]at h;have e:xs=ys++xs.drop k:=by
   conv=>lhs;rw[<-Yz k xs,h]
  have q:Az xs ys=Az (xs.drop k) []:=by
   have:=Pr ys (xs.drop k) [];rwa [yM,<-e]at this
  have l:=congrArg List.length e;rw[yR]at l;rw[q];generalize xs.drop k=D at l
 rotate_left
 all_goals
  rcases D with _|⟨d,D⟩
  .simp[Az];simp at l;omega
  simp[Az];simp at l;omega
def sq{x y:It}(h:x.au≠y.au):decide (BJ x y<0)=decide (x.au<y.au):=by
 rw[Oj];rcases Fr x.au y.au with⟨p,q⟩|⟨p,q⟩|⟨p,q⟩
 .simp[q,p]
 .simp[q];omega
 exact absurd p h
def io{x y:It}(h:x.au=y.au):BJ x y=Az x.al y.al:=by
 rw[Oj];rcases Fr x.au y.au with⟨p,q⟩|⟨p,q⟩|⟨p,q⟩
 .omega
 .omega
 rw[if_pos q]
def Ml(x:It)(a:Option Addr)(c:Nat):Value:=.agg #[.int .i64 x.au,.slice a x.al.length c]
def zo6(x y:It)(a E:Option Addr)(c W:Nat){q q':Option Nat}(w:World)(hv:Bf q w a x.al)(H:Bf q' w E y.al)(hl:x.al.length<=1048576) :
  Ca 103 #[Ml x a c,Ml y E W] w λe w'=>e=.returned (.bool (decide (BJ x y<0)))/\Bw w w':=by
 obtain⟨M,R⟩:=Ak hv H;clear hv H;unfold Ml;go_enter func103,ntmps103;go_upto_region 1 with fail;refine Bo ?_;intro n z C O;obtain⟨G,Y⟩:∃b,b=w.heap.size:=⟨_,rfl⟩
 obtain⟨I,D⟩:∃b,b=G+1:=⟨_,rfl⟩
 rw[<-Y]at C;rw[<-Y]at O;rw[<-D]at O;(try rw[<-Y]);(try rw[<-D]);have K:n.cell? ⟨G,0,none⟩=some (.int .i64 x.au):=by simp[World.cell?,C]
 have N:n.cell? ⟨G,1,none⟩=some (.slice a x.al.length c):=by simp[World.cell?,C]
 have U:n.cell? ⟨I,0,none⟩=some (.int .i64 y.au):=QH;have L:n.cell? ⟨I,1,none⟩=some (.slice E y.al.length W):=QH;obtain⟨r,T1,T2⟩:=AQ z (M.o.J z) (R.o.J z);clear z C O Y D M R;by_cases l:x.au=y.au
 .have r0:(x.au != y.au)=false:=by simpa using l
  have u:=Aa (io l);clear l;go_wp2_with fail
  go_loopw [5] (λi wr=>∃(k:Nat),k<=x.al.length/\i=.int .i64 k/\x.al.take k=y.al.take k/\Bw n wr) (mz x.al.length)
  case atStart=>exact⟨0,qd,rfl,rfl,Aj⟩
  case round=>
   obtain⟨k,hk,rfl,T,m⟩:=hrel;obtain⟨A,B⟩:=Ak T m;have c0:=zab m K;have c1:=zab m N;have c2:=zab m U;have c3:=zab m L;clear T K N U L m;have z0:(0:Int)<=(k:Int):=qd;by_cases Z:k<x.al.length
   .have z1:(k:Int)<(x.al.length:Int):=qd;obtain⟨s,f⟩:=AJ Z;obtain⟨g,o,rfl,_,g0⟩:=(T1.o.J B.o).get f;by_cases am:k<y.al.length
    .have z2:(k:Int)<(y.al.length:Int):=qd;obtain⟨t,v⟩:=AJ am;obtain⟨g',o',rfl,_,g1⟩:=(T2.o.J B.o).get v;by_cases h0:s=t
     .have d:=Aa (show x.al.take (k+1)=y.al.take (k+1) by rw[yY,yY,A.o,f,v,h0]);have s0:(s != t)=false:=qC;clear f v h0;go_wp2_with fail;go_region;go_wp2_with fail;go_roundw
      case rel=>exact⟨k+1,qd,ql,d.o,B.o.drew⟩
      case measure=>(simp;omega)
     have d:=Aa (show decide (BJ x y<0)=decide (s<t) by
      rw[u.o,rf A.o f v h0];rcases Fr s t with⟨p,q⟩|⟨p,q⟩|⟨p,q⟩
      .simp[q,p]
      .simp[q];omega
      exact absurd p h0)
     have s0:(s != t)=true:=qC;clear f v h0;go_wp2_with fail;go_region;go_wp2_with fail;go_region;go_wp2_with fail;go_ret;exact⟨AE d.o.ai,r.o.j ((B.o.drew.drew).ac r.o.size)⟩
    have z2:¬(k:Int)<(y.al.length:Int):=qd;have d:=Aa (show decide (BJ x y<0)=decide (x.al.length<y.al.length) by
     rw[u.o];exact decide_eq_decide.2 (gC A.o (.inr qd)))
    clear f;go_wp2_with fail;go_ret;exact⟨AE d.o.ai,r.o.aj B.o⟩
   have z1:¬(k:Int)<(x.al.length:Int):=qd;have d:=Aa (show decide (BJ x y<0)=decide (x.al.length<y.al.length) by
    rw[u.o];exact decide_eq_decide.2 (gC A.o (.inl qd)))
   go_wp2_with fail;go_ret;exact⟨AE d.o.ai,r.o.aj B.o⟩
 have r0:(x.au != y.au)=true:=by simpa using l
 have u:=Aa (sq l);clear l;go_wp2_with fail;go_ret;exact⟨AE u.o.ai,r.o⟩
def zoI(x y:It)(a g:Option Addr)(c m:Nat){q q':Option Nat}(w:World)(hv:Bf q w a x.al)(s:Bf q' w g y.al)(hl:x.al.length<=1048576) :
  Ca 104 #[Ml x a c,Ml y g m] w λe w'=>e=.returned (.bool (decide (BJ x y=0)))/\Bw w w':=by
 have u:=Aa (show decide (BJ x y=0)=(decide (x.au=y.au)&&decide (x.al=y.al)) by
  by_cases h:BJ x y=0
  .have e:=RV h;subst e;simp[h]
  rw[decide_eq_false h];by_cases v:x.au=y.au
  .rw[io v]at h;by_cases t:x.al=y.al
   .rw[t]at h;exact absurd (by have:=Pr y.al [] [];simpa[Az] using this) h
   simp[t]
  simp[v])
 have p:=Aa (λw'(h:Bw w w')=>ziz a g c m x.al y.al w' (hv.J h) (s.J h) hl);clear hv s;unfold Ml;go_enter func104,ntmps104;go_upto_region 1 with fail;refine Bo ?_;intro f n ah Y;obtain⟨k,i⟩:∃b,b=w.heap.size:=⟨_,rfl⟩
 obtain⟨r,O⟩:∃b,b=k+1:=⟨_,rfl⟩
 rw[<-i]at ah;rw[<-i]at Y;rw[<-O]at Y;(try rw[<-i]);(try rw[<-O]);have B:At f k 0 (I6 x.au):=qJ;have D:At f k 1 (.slice a x.al.length c):=qJ;have E:At f r 0 (I6 y.au):=qE;have C:At f r 1 (.slice g y.al.length m):=qE;have j:=Aa n;clear n ah Y i O;by_cases d:x.au=y.au
 .have z:(x.au==y.au)=true:=by simpa using d
  have l:=Aa (show decide (BJ x y=0)=decide (x.al=y.al) by rw[u.o,decide_eq_true d];simp);clear d;go_wp2_with fail;refine(p.o f j.o).an λG O=>?_;have A:=Aa (j.o.aj O);clear O p;go_wp2_with fail;go_ret;exact⟨AE l.o.ai,A.o⟩
 have z:(x.au==y.au)=false:=by simpa using d
 have l:=Aa (show decide (BJ x y=0)=false by rw[u.o,decide_eq_false d];simp);clear d;go_wp2_with fail;go_ret;exact⟨AE l.o.ai,j.o⟩
end
end Go.Proofs.YtikojfajahnhgaaGreat
