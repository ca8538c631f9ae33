import Derived.Test.YtikojfajahnhgaaGreatKas
set_option linter.all false
set_option maxHeartbeats 12800000
set_option maxRecDepth 100000
namespace Go.Proofs.YtikojfajahnhgaaGreat
open Go.RowKit Go.Proofs.Tryz
attribute [local go_sem ↓] wp_at_zero wp_at_succ
attribute [local simp] At I6 Pn mzI Bk
attribute [local go_sem] At I6 Pn Bk
def Rz(b:Nat)(w:Aa):Prop:=(∀j,j<3->w.cell? ⟨b,j,none⟩=some (.int .i64 0))/\(∀j,w.frozen? ⟨b,j,none⟩=false)/\b<w.heap.size
theorem Rz.e{b:Nat}{w w':Aa}(h:Rz b w)(a:Bw w w'):Rz b w':=
 ⟨λj hj=>zab a (h.1 j hj),λj=>by rw[(AU a).2 _ _ h.2.2];exact h.2.1 j,yg h.2.2 a.size⟩
def Rz.get{b:Nat}{w:Aa}(h:Rz b w):At w b 0 (I6 0)/\At w b 1 (I6 0)/\At w b 2 (I6 0)/\w.frozen? ⟨b,0,none⟩=false/\w.frozen? ⟨b,1,none⟩=false/\w.frozen? ⟨b,2,none⟩=false:=
 ⟨h.1 0 qd,h.1 1 qd,h.1 2 qd,h.2.1 0,h.2.1 1,h.2.1 2⟩
def Rz.aO(w:Aa)(t:TypeId):Rz w.heap.size (w.alloc (.cells #[I6 0,I6 0,I6 0] t)):=
 ⟨λj hj=>qY,λj=>ql,qf⟩
def pX(fs):∀(a:Bi)(xs:Cr)(n t b:Nat),(∀x∈xs,x.G.length<=t/\x.az.length<=b)->(∀p∈a,p.s.length<=6)->∀y∈(BC a fs xs n).1,y.G.length<=t+a.length/\y.az.length<=b+6*a.length
 |[],xs,n,t,b,h,_,y,hy=>by
  simp only[BC]at hy
  simpa using h y hy
 |p::a,xs,n,t,b,h,h6,y,hy=>by
  simp only[BC]at hy
  have e:=h6 p Wm
  have:=pX fs a (Eo p fs xs) _ (t+1) (b+6) (λx d=>by have:=rN h x d;omega) (λq c=>h6 q (YP _ c)) y hy
  rw[Ya]
  omega
def DZ(rs:Az)(fs:Ab):Bool:=decide ((Cf rs).1=0)&&ET fs
def MI{rs fs}(h:DZ rs fs=true):(Cf rs).1=0/\ET fs=true/\fs.length<=40:=by grind[CL,DZ,Cf,ET]
def Fg.one{w k x d a O f b e}(h:Bk w k #[.string x.name,I6 x.aq,.slice d x.x.length f,.slice a x.A.length b,.slice O x.K.length e] 53)(g:Gl none w d x.x)(n:EI none w a x.A)(l:Ih none w O x.K)(m:x.A.length<=b):Fg none w (some ⟨k,0,none⟩) [x]:=by
 intro i y c;rcases i with _|i
 .simp at c;subst c;refine⟨k,0,_,rfl,Qb.ac _ _ _,rfl,?_,d,f,a,b,O,e,rfl,g,n,l,m⟩;intro j v hj;rcases j with _|_|_|_|_|j
  all_goals simp at hj
  all_goals subst hj
  all_goals simp[World.cell?,h]
 simp at c
def zin(a m:Af)(c u:Nat)(xs ys:As){q q':AD}(w:Aa)(hv:CJ q w a xs)(p:CJ q' w m ys)(hl:xs.length<=1048576) :
  Ca 169 #[.slice a xs.length c,.slice m ys.length u] w λe w'=>e=.returned (.bool (decide (xs=ys)))/\Bw w w':=by
 by_cases s:xs.length=ys.length
 .have r:((xs.length:Int) != (ys.length:Int))=false:=by simp;omega
  have E:xs.length<=ys.length:=qd;have B:ys.length<=xs.length:=qd;go_enter func169,ntmps169;go_wp2
  go_loopw [13] (λi wr=>∃(k:Nat),k<=xs.length/\i=I6 k/\xs.take k=ys.take k/\Bw w wr) (mz xs.length)
  .exact TL
  obtain⟨k,D,rfl,t,f⟩:=hrel;have l:=Ad t;by_cases O:k<xs.length
  .obtain⟨x,d⟩:=Bq O;obtain⟨y,j⟩:∃y,ys[k]?=some y:=⟨ys[k]'(by omega),qf⟩
   obtain⟨b,o,rfl,_,v⟩:=(CJ.e hv f).get d;obtain⟨C,o',rfl,_,H⟩:=(CJ.e p f).get j;obtain⟨A,I⟩:=CZ O;have G:(k:Int)<(ys.length:Int):=qd;by_cases h0:x=y
   .have g:=Ad (show xs.take (k+1)=ys.take (k+1) by rw[Yc,Yc,l.o,d,j,h0]);have n:(x != y)=false:=qK;go_wp2;go_region;go_wp2;exact⟨⟨k+1,qd,qm,g,f.drew⟩,qe⟩
   have g:=Ad (show decide (xs=ys)=false from decide_eq_false (λe=>h0 (by rw[e,j]at d;injection d with d;exact d.z)));have n:(x != y)=true:=qK;go_wp2;go_region;go_wp2;go_ret;exact⟨Ba g.z,f.drew⟩
  have g:=Ad (show decide (xs=ys)=true from decide_eq_true (by have:=l.o;rwa [yR qd,yR qd]at this));go_wp2;go_ret;exact⟨Ba g.z,f⟩
 have r:((xs.length:Int) != (ys.length:Int))=true:=by simp;omega
 go_enter func169,ntmps169;go_wp2;go_ret;exact⟨Ba (by rw[decide_eq_false (λe=>s Ij)]),Au⟩
def Fq{w b ty x0 x1 d a c}(h:Bk w b #[x0,x1,d,a,c] ty):At w b 0 x0/\At w b 1 x1/\At w b 2 d/\At w b 3 a/\At w b 4 c:=by
 refine⟨?_,?_,?_,?_,?_⟩<;>simp[World.cell?,h]

def k_(bs:BA)(w:Aa)(e:Ending)(w':Aa):Prop:=(∃a c,e=.returned (.slice a bs.length c)/\w'.ownsRow w.heap.size 367 4 (.slice a bs.length c) bs.length (bs.flatMap FE))/\Bw w w'
def k_.nil{a:BA}{w w':Aa}(c:a=[])(b:Bw w w'):k_ a w (.returned (.slice none 0 0)) w':=by
 subst c;exact⟨⟨none,0,rfl,yJ _ _ _ _⟩,b⟩
def Zl(fs:Ab):∀(b:Bi)(T:Ab)(vs:AY)(m:Nat),JQ b vs T.length->Cv vs ⟨#[]⟩=none->(∀x∈vs,x.aw<T.length) ->
  (BC b fs [⟨T.map (·.tag),Bc T vs⟩] m).1=(EY (CO b vs T.length) fs T).map (λU=>(⟨U.map (·.tag),Bc U (Ev b vs T.length)⟩:Pm))
 |[],T,vs,m,_,_,_=>rfl
 |p::b,T,vs,m,hk,hE,hT=>by
  obtain⟨g,l,O⟩:=hk
  have e:=lE g hE l hT ⟨p.neg,T.length,DW p,Dr vs p.s p.s.length⟩ rfl rfl fs
  rw[TI]
  simp only[BC,CO,EY]
  have o:Eo p fs [⟨T.map (·.tag),Bc T vs⟩]=I7 p fs ⟨T.map (·.tag),Bc T vs⟩:=by simp[Eo]
  rw[o]
  unfold I7
  by_cases a:p.neg=true
  .rw[if_pos a,if_pos a,if_pos a,if_pos a]
   rw[if_pos a]at O
   rw[e]
   by_cases c:fs.any (lets ⟨p.neg,T.length,DW p,Dr vs p.s p.s.length⟩ T)=true
   .rw[if_pos c,if_neg (by
     obtain⟨f,d,i⟩:=WM.1 c
     have:=List.length_pos_of_mem (yh.2 ⟨d,i⟩)
     rw[yu]
     omega),nJ]
    rfl
   rw[if_neg c,if_pos (by
    rw[yu,Wb,WQ]
    intro f d n
    exact c (WM.2 ⟨f,d,n⟩))]
   exact Zl fs b T vs _ O hE hT
  rw[if_neg a,if_neg a,if_neg a,if_neg a]
  rw[if_neg a]at O
  rw[e,o5,i6,List.map_flatMap]
  congr 1
  funext f
  have k:Cv (Dw vs p.s T.length p.s.length) ⟨#[]⟩=none:=(Tw _ _ Bg).2 ⟨hE,sE (zrr g) _ Bg⟩
  have:=Zl fs b (T++[f]) (Dw vs p.s T.length p.s.length) 0 OJ k (λx j=>by simpa using VI hT p.s.length x j)
  simpa using this
def UU{fs:Ab}{a:Bi}(b:JQ a [] 0):(BC a fs [⟨[],[]⟩] 0).1=(EY (CO a [] 0) fs []).map (λU=>(⟨U.map (·.tag),Bc U (Ev a [] 0)⟩:Pm)):=Zl fs a [] [] 0 b rfl (λx hx=>qF)
def Dy(fs:Ab):Nat->Az->BN
 |_,[]=>[]
 |i,r::rs=>(BC r.x fs [⟨[],[]⟩] 0).1.map (λx=>(⟨(i:Int),x.G⟩:It))++Dy fs (i+1) rs
def XS(rs:Az)(fs:Ab):BN:=if DZ rs fs=true then Dy fs 0 rs else []
def zmi(fs r):∀(rs:Az)(i:Nat),Dy fs i (rs++[r])=Dy fs i rs++(BC r.x fs [⟨[],[]⟩] 0).1.map (λx=>(⟨((i+rs.length:Nat):Int),x.G⟩:It)):=by intro rs;induction rs<;>grind[BC,Dy]
def od(fs){rs:Az}{k r}(h:rs[k]?=some r):Dy fs 0 (rs.take (k+1))=Dy fs 0 (rs.take k)++(BC r.x fs [⟨[],[]⟩] 0).1.map (λx=>(⟨(k:Int),x.G⟩:It)):=by
 have a:k<rs.length:=(yf.1 h).1;rw[Yc,h];simp only[Option.toList];rw[zmi,YL,Nat.min_eq_left qd,Yj]
theorem zmZ(p fs)(a:fs.length<=40)(x):(I7 p fs x).length<=40^(Ag [p]):=by grind[La,DB,Ag,I7,ZT]
def zpw(p fs)(a:fs.length<=40):∀X:Cr,(Eo p fs X).length<=X.length*40^(Ag [p]):=by intro X;induction X<;>grind[Eo,Ag,I7,zmZ]
def oD(fs)(b:fs.length<=40):∀(a:Bi)(xs:Cr)(n:Nat),(BC a fs xs n).1.length<=xs.length*40^Ag a
 |[],xs,n=>by simp[BC,Ag]
 |r::a,xs,n=>by
  have c:=oD fs b a (Eo r fs xs) (n+(Eo r fs xs).length)
  have e:=zpw r fs b xs
  have d:Ag (r::a)=Ag [r]+Ag a:=by
   unfold Ag;rw[<-List.countP_append];rfl
  simp only[BC];rw[d,Nat.pow_add,<-Nat.mul_assoc];exact yi c (YI _ e)
def c_{rs fs}(h:DZ rs fs=true){r}(g:r∈rs):(BC r.x fs [⟨[],[]⟩] 0).1.length<=64000/\∀x∈(BC r.x fs [⟨[],[]⟩] 0).1,x.G.length<=6:=by
 obtain⟨O,_,i⟩:=MI h;obtain⟨j,b,f⟩:=Oy O g;have d:=oD fs i r.x [⟨[],[]⟩] 0;have e:40^Ag r.x<=40^3:=KF qd f;rw[List.length_singleton,K6]at d;refine⟨by simp at e;omega,λx c=>?_⟩;have:=(pX fs r.x [⟨[],[]⟩] 0 0 0 (by intro y a;simp at a;subst a;simp) b x c).1;omega
def Rm{rs}(h:(Cf rs).1=0):rs.length<=16:=by grind[Cf,Gj]
def r9{fs}:∀(rs:Az)(i:Nat),(∀r∈rs,(BC r.x fs [⟨[],[]⟩] 0).1.length<=64000/\∀x∈(BC r.x fs [⟨[],[]⟩] 0).1,x.G.length<=6)->(Dy fs i rs).length<=rs.length*64000/\∀y∈Dy fs i rs,y.G.length<=6
 |[],i,_=>by simp[Dy]
 |r::rs,i,h=>by
  obtain⟨f,c⟩:=r9 rs (i+1) (λx b=>h x (YP _ b))
  obtain⟨e,d⟩:=h r Wm
  simp only[Dy]
  refine⟨by rw[yM,yu,Ya];omega,λy a=>?_⟩
  rcases yp.1 a with a|a
  .obtain⟨x,b,rfl⟩:=yv.1 a
   exact d x b
  exact c y a
def iG{rs fs}(h:DZ rs fs=true)(k):(Dy fs 0 (rs.take k)).length<=1024000/\∀y∈Dy fs 0 (rs.take k),y.G.length<=6:=by
 have d:=Rm (MI h).1;obtain⟨a,b⟩:=r9 (fs:=fs) (rs.take k) 0 (λr c=>c_ h (Wv c));refine⟨?_,b⟩;rw[YL]at a;omega
def Pj(L:BN)(w:Aa)(e:Ending)(w':Aa):Prop:=(∃a c M,e=.returned (.slice a (List.length M) c)/\Iw w' w.heap.size w.heap.size a c M/\M.map Prod.fst=L)/\Bw w w'
def Pj.nil{L w w'}(b:L=[])(a:Bw w w'):Pj L w (.returned (.slice none 0 0)) w':=by
 subst b;exact⟨⟨none,0,[],rfl,Iw.nil _ _ _,rfl⟩,a⟩
def Pj.mk{L w w' a c M}(d:L=M.map Prod.fst)(h:Iw w' w.heap.size w.heap.size a c M)(b:Bw w w'):Pj L w (.returned (.slice a M.length c)) w':=by
 subst d;exact⟨⟨a,c,M,rfl,h,rfl⟩,b⟩
def vu(L:BN)(w:Aa)(e:Ending)(w':Aa):Prop:=(∃a c M,e=.returned (.slice a M.length c)/\Iw w' w.heap.size w.heap.size a c M/\M.map Prod.fst=L/\M.Pairwise (λx y=>BH x.2 y.2))/\Bw w w'
def zoX{pre x}(h:(CC pre x).1=0):AO x=none/\pre.any (λo=>decide (o.name=x.name))=false/\(1<=Ag x.x/\Ag x.x<=3)/\Bp x=none/\CU x=none:=by
 unfold CC at h;cases a:AO x with
 |some i=>rw[a]at h;simp at h
 |none=>
  rw[a]at h;simp only at h;split at h
  .simp at h
  rename_i O;split at h
  .rename_i c;cases b:Bp x with
   |some i=>rw[b]at h;simp at h
   |none=>
    rw[b]at h;cases d:CU x with
    |some i=>rw[d]at h;simp at h
    |none=>exact⟨rfl,OJ,c,rfl,rfl⟩
  simp at h
def zr4(x g n d f m p L aE pre){q}(w)(au:Fg q w L pre)(af:Gl q w g x.x)(r:EI q w d x.A)(I:Ih q w m x.K)(R:x.le 1048576)(ho:Jd x.A)(ax:x.A.length<=f)(aU:pre.length<=16)(h0:(CC pre x).1=0) :
  Ca 85 #[.agg #[.string x.name,I6 x.aq,.slice g x.x.length n,.slice d x.A.length f,.slice m x.K.length p],.slice L pre.length aE] w λe w'=>
   e=.returned (.tuple #[I6 0,I6 0])/\Bw w w':=by
 obtain⟨T,az,hr,Y,aL⟩:=zoX h0;have J:=R;obtain⟨aS,aG,aV,aJ⟩:=R;have aF:=Ad (λw z u C=>zrn x g n d f m p (q:=q) w z u C J ho T);obtain⟨aN,aX,ay,U,aH,ar⟩:=VJ T;obtain⟨D,G⟩:=An (λw z u C=>zio x g n d f m p (q:=q) w z u C J aN U ar ax ay) (λw z u=>zkR x g n d f m p (q:=q) w z u aG.1 aJ.1);rw[Y]at D;rw[aL]at G;simp only[Gw]at D G;have aC:=Ad az;have r0:¬(Ag x.x:Int)<1:=qd;have r1:¬(3:Int)<(Ag x.x:Int):=qd;go_enter func85,ntmps85;go_wp2_with (go_at_call 144;refine(aF _ (af.e Ar) (r.e Ar) (I.e Ar)).j ?_;rintro e w1 ⟨⟨v,rfl⟩,N⟩);have aP:Bw w w1:=Ar.thn N;have aK:=(Fu.aO w 53 x g n d f m p).e N
 go_loopw [23] (λi wr=>∃(k:Nat),k<=pre.length/\i=I6 k/\Fu wr w.heap.size x g n d f m p/\Bw w wr) (mz pre.length)
 .exact⟨0,qd,rfl,aK,aP⟩
 obtain⟨k,hk,rfl,E,s⟩:=hrel;have HBX:=Ad E;by_cases Z:k<pre.length
 .obtain⟨y,M⟩:=Bq Z;obtain⟨b,o,a1,k1,a2,k2,a3,k3,rfl,hq,c0,c1,c2,c3,c4,_,_,_⟩:=(au.e s).get M;have B:∀o,Bw w (wr.alloc o):=λo=>s.alloc s.size _;obtain⟨H,W,q2,q3,q4⟩:=E;have aT:w.heap.size<wr.heap.size:=Oo H;have aW:∀o,At (wr.alloc o) w.heap.size 0 (.string x.name):=λo=>zab (Gp o) H;have e1:(y.name.toList==x.name.toList)=false:=by
   rw[Gu];have:=List.any_eq_false.1 aC y (yd M);simpa using this
  go_wp2;exact⟨⟨k+1,qd,qm,HBX.e Ar,B _⟩,qe⟩
 have aR:Ag x.x<=x.x.length:=Kw;obtain⟨H,W,q2,q3,q4⟩:=E;go_wp2_with (first|(go_at_call 83;refine(sA x g n d f m p _ (af.e s) qd).rtn λw2 O=>?_;obtain⟨s0,s1,s2,s3,s4⟩:=HBX.e O)|(go_at_call 145;refine(D _ (af.e (s.thn O)) (r.e (s.thn O)) (I.e (s.thn O))).rtn λw3 t=>?_;obtain⟨t0,t1,t2,t3,t4⟩:=(HBX.e O).e t)|(go_at_call 146;refine(G _ (af.e ((s.thn O).c (t.j (s.thn O).size))) (I.e ((s.thn O).c (t.j (s.thn O).size)))).rtn λw4 aO=>?_)|fail);refine bodyPost_ret (v:=.tuple #[I6 (0),I6 (0)]) (by simp[results,results85,go_sem]) rfl ⟨rfl,(((s.thn O).c (t.j (s.thn O).size)).c (aO.j ((s.thn O).c (t.j (s.thn O).size)).size))⟩
def sK(a c rs){q}(w)(hv:Fg q w a rs)(hc:rs.length<=c)(E:FD Ru.le 1048576 rs)(W:∀x∈rs,Jd x.A)(r:Cf rs=(0,0,0)) :
  Ca 41 #[.slice a rs.length c] w λe w'=>e=.returned (.agg #[I6 0,I6 0,I6 0])/\Bw w w':=by
 obtain⟨hl,E⟩:=E;have aw:rs.length<=16:=Rm (by rw[r]);have aA:¬(16:Int)<(rs.length:Int):=qd;have HC:=Ad (show Gj [] rs 0=(0,0,0) by rw[<-r];unfold Cf;rw[if_pos aw]);go_enter func41,ntmps41;go_wp2
 go_loopw [13] (λi wr=>∃(k:Nat),k<=rs.length/\i=I6 k/\Gj (rs.take k) (rs.drop k) k=(0,0,0)/\w.heap.size<wr.heap.size/\(∀j,j<3->At wr w.heap.size j (I6 0))/\(∀j,wr.frozen? ⟨w.heap.size,j,none⟩=false)/\Bw w wr) (mz rs.length)
 .exact⟨0,qd,rfl,HC,qf,λj hj=>qY,λj=>ql,Ar⟩
 obtain⟨k,hk,rfl,hG,J,B,C,s⟩:=hrel;have R:=Ad hG;have U:=B 0 qd;have Y:=B 1 qd;have Z:=B 2 qd;have f0:=C 0;have f1:=C 1;have f2:=C 2;have L:=Ad (And.intro B C);by_cases ax:k<rs.length
 .obtain⟨x,O⟩:=Bq ax;have I:=hv.e s;obtain⟨b,o,m,g,d,f,n,l,rfl,hq,c0,c1,c2,c3,c4,ah,p,M,ar⟩:=I.get O;have T:=E x (yd O);have az:=W x (yd O);have t:=R.o;rw[Dx O,PV]at t;have G:(CC (rs.take k) x).1=0:=by
   by_cases h:(CC (rs.take k) x).1=0
   .exact h
   rw[if_neg h]at t;exact absurd (congrArg Prod.fst t) h
  rw[if_pos G,<-OA rs k x O]at t;have HX:=Ad t;have u:(rs.take k).length=k:=by simp;omega
  have D:∀o,Bw wr (wr.alloc o):=λo=>Ar;have N:∀o,Bw w (wr.alloc o):=λo=>s.alloc s.size _;have H:=Ad (λw'(r:Bw wr w')=>zr4 x m g d f n l (some ⟨b,o,none⟩) c (rs.take k) (q:=q) w' (CI.take (I.e r) k) (ah.e r) (p.e r) (M.e r) T az ar qd G);rw[u]at H;have z0:(0:Int)<=(k:Int):=qd;have z1:(k:Int)<=(c:Int):=qd;go_wp2
  go_region_held3 (λw'=>At w' wr.heap.size 0 (.string x.name)/\At w' wr.heap.size 1 (I6 x.aq)/\At w' wr.heap.size 2 (.slice m x.x.length g)/\At w' wr.heap.size 3 (.slice d x.A.length f)/\At w' wr.heap.size 4 (.slice n x.K.length l)) ((go_split_ands;refine⟨?_,?_,?_,?_,?_⟩<;>first|(simp[go_sem];done)|exact zab y qk)) (first|(go_at_call 85;refine(H _ ((D _).drew)).rtn λw' y=>?_)|fail)
  have z:Bw wr w':=(D _).drew.c (y.j (by have:=(D (.map #[] 0)).size;simp));go_wp2;exact⟨⟨k+1,qd,qm,HX,yg J z.size,λj hj=>zab z (L.1 j hj),λj=>by rw[(AU z).2 _ _ J];exact L.2 j,s.thn z⟩,qe⟩
 go_wp2;refine bodyPost_ret (v:=.agg #[I6 0,I6 0,I6 0]) (by simp[results,results41,go_sem,U,Y,Z]) rfl ⟨rfl,?_⟩;exact((s.setCell Bg _).setCell Bg _).setCell Bg _
def sN(a c rs){q}(w)(hv:Fg q w a rs)(d:rs.length<=c)(O:FD Ru.le 1048576 rs)(f:∀x∈rs,Jd x.A)(b:(Cf rs).1=0) :
  Ca 41 #[.slice a rs.length c] w λe w'=>e=.returned (So (Cf rs))/\Bw w w':=by
 rw[ZH b];exact sK a c rs w hv d O f (ZH b)
section
open Go.Maps
def IL(P:List Px)(rs:Az)(k:Nat):Prop:=P.length=k/\∀(i:Nat)(x:Px)(r:Ru),P[i]?=some x->rs[i]?=some r->x.X.map Cx.cp=CO r.x [] 0/\x.U=Ev r.x [] 0
def IL.snoc{P:List Px}{rs:Az}{k:Nat}{x:Px}{r:Ru}(h:IL P rs k)(d:rs[k]?=some r)(e:x.X.map Cx.cp=CO r.x [] 0)(f:x.U=Ev r.x [] 0):IL (P++[x]) rs (k+1):=by
 refine⟨by simp[h.1],λi y q a b=>?_⟩;by_cases c:i<P.length
 .rw[yr c]at a;exact h.2 i y q a b
 have O:i=P.length:=by
  have:=(yf.1 a).1;simp at this;omega
 subst O;simp at a;subst a;rw[h.1,d]at b;cases b;exact⟨e,f⟩
def PoZ(rs:Az)(fs:Ab)(wE w:Aa)(e:Ending)(w':Aa):Prop:=
 (∃a c base gb mb la lc L bs V P Q,e=.returned (.slice a rs.length c)/\IL P rs rs.length/\Gg w' base a c P (L.map Prod.fst) bs/\NF w' base gb mb la lc L bs V (λ_=>Q)/\Q.map Prod.snd=fs/\∀y∈Q,DJ wE y.1 y.2)/\Bw w w'
def zlR(rs a c fs fa fc){q}(wE w)(hE:Bw wE w)(hv:Fg q w a rs)(hc:rs.length<=c)(aE:FD Ru.le 1048576 rs)(ho:∀x∈rs,Jd x.A)(bf:∀r∈rs,∀p∈r.x,∀t∈p.s,ER t.val)(aD:Cs wE fa fs)(bt:fs.length<=1048576)(a4:∀f∈fs,A6 f)(ak:DZ rs fs=true) :
  Ca 56 #[.slice a rs.length c,.slice fa fs.length fc] w (PoZ rs fs wE w):=by
 have aC:=aD.e hE;obtain⟨kl,K⟩:=N9.bP;obtain⟨HV,bg,bj,bm,bo,HE⟩:=Ma hv aE bf aC aD hE;have bG:=hE.size;obtain⟨I,ay⟩:=An (sN a c rs w hv hc aE ho (MI ak).1) (λw'(hb:Bw w w')=>iI fa fc fs w' (aC.e hb) bt a4);clear hv aE bf aC a4 ho aD hE;unfold So at I;have br:∀(p0 p1 p2:Int)(w:Aa),(Instr.field 80 (.agg #[I6 p0,I6 p1,I6 p2]) 0).run prog w=.ok (I6 p0) w:=λ_ _ _ _=>by kernel_rfl
 obtain⟨af,l,bD⟩:=MI ak;have bO:=(Tc af).1;have bl:=Ad (λr(E:r∈rs)=>Oy af E);have aT:((Cf rs).1 != 0)=false:=Sa;have a9:((Cf rs).1==0)=true:=Sa;generalize (Cf rs).1=p0 at I af aT a9;generalize (Cf rs).2.1=p1 at I;generalize (Cf rs).2.2=p2 at I;clear af;rw[l]at ay;clear l ak;go_enter func56,ntmps56;go_wp2_with fail;refine I.rtn λw1 ax=>?_;obtain⟨B1,GF⟩:=An ax (ay w1 ax);clear ax I ay;go_wp2_with fail;refine GF.rtn λw2 aX=>?_;have B2:=Ad (B1.thn aX);have O:=B2.size;clear aX GF B1 br aT a9;go_wp2_with fail;refine(rp kl w2).rtn λw3⟨aw,aA⟩=>?_;obtain⟨G3,B3⟩:=An aw (B2.thn aA);have aR:=aA.size;clear aw aA B2;obtain⟨u,aU⟩:=AF (w2.heap.size+1);obtain⟨base,aS⟩:=AF w2.heap.size;rw[<-aU]at G3⊢;rw[<-aS]at G3 O aR;have bC:base<=u:=qd;clear aU aS;go_wp2
 go_loopw [22,6] (λiv pv wr=>∃(k:Nat)(pa:Af)(pc:Nat)(P:List Px)(z:Af)(v:Nat)(L:CD)(m:A5)(D:DataW Unit),iv=I6 (k:Int)/\pv=.slice pa P.length pc/\k<=rs.length/\P.length<=k/\IL P rs k/\L.length<=6*k/\(∀x∈L,x.1.y.length<=6)/\NS kl wr base u base z v L m D/\Gg wr base pa pc P (L.map Prod.fst) m/\Bw w wr/\base<=wr.heap.size) (λiv _ _=>rs.length-(intOf iv).toNat)
 .exact⟨0,none,0,[],none,0,[],[],_,rfl,rfl,yn _,yA _,⟨rfl,λi x r hx=>qF⟩,yA _,λx hx=>qF,G3,⟨yJ _ _ _ _,λx hx=>qF⟩,B3,aR⟩
 obtain⟨k,pa,pc,P,z,v,L,m,D,rfl,rfl,bN,bM,aG,bL,ar,aQ,aq,hB,bk⟩:=hrel;obtain⟨PX,a0,G,PL,B⟩:=Ei aG ar aQ aq hB;clear aG ar aQ aq hB G3 B3;by_cases hk:k<rs.length
 .obtain⟨r,E⟩:=Bq hk;obtain⟨rb,ro,aJ,aK,a6,aF,a8,aY,rfl,_,T,N,Z,c3,c4,bc,_,_,_⟩:=HV.get E;have d0:=zab B T;have d1:=zab B N;have d2:=zab B Z;have d3:=zab B c3;have d4:=zab B c4;have ao:=yd E;obtain⟨bA,aW,_⟩:=bl r ao;obtain⟨a5,HR⟩:=An (λw'(hN:NS kl w' base u base z v L m D)(hA:Bw w w')(hb:base<=w'.heap.size)=>rV kl K r aJ aK a6 aF a8 aY base u base z v L m D w w' hA O hb bc hN bA aW (bg.2 r ao).2.1.2 (bj r ao) qd a0) E;obtain⟨z0,z1⟩:=CZ hk;clear T N Z c3 c4 bc E aW ao;go_upto_region 8 with fail;refine BF ?_;intro n R ah;have y0:At n wr.heap.size 0 (.string r.name):=Ql;have y1:At n wr.heap.size 1 (I6 r.aq):=Ql;have y2:At n wr.heap.size 2 (.slice aJ r.x.length aK):=Ql;have y3:At n wr.heap.size 3 (.slice a6 r.A.length aF):=Ql;have y4:At n wr.heap.size 4 (.slice a8 r.K.length aY):=Ql;obtain⟨H,aP,B5⟩:=AK (G.C R) (PL.C R) (B.thn R);have bI:=R.size;have aV:base<=n.heap.size:=qd;clear R ah d0 d1 d2 d3 d4 G PL B;go_wp2_with fail;refine(a5 n H B5 aV).j ?_;rintro e w6 ⟨ag,ab,L',ac,D',ca,cc,va,vc,X,rfl,hX,aM,aO,M,_,bd,au,bE,h6⟩;obtain⟨az,G6,bh,bi,EX,bp,HX,H6⟩:=XD (M.aa aP.row H qi qi) aM (aO.lower aV) M bd au hX h6;have bK:=M.rest.size;have bB:base<=w6.heap.size:=qd;obtain⟨B6,J⟩:=An (B5.c (M.e B5.size (yi O H.bd.1) (yi O H.bd.2) (λg l=>yi O (H.row.lt g l).1))) (λo=>Au.alloc Bg o:∀o,Bw w6 (w6.alloc o));have TY:=Ad (λo g l=>A7 (AZ az (J o)) (k:=g) l);clear hX aM aO M bd au h6 y0 y1 y2 y3 y4 a5;go_wp2_with (first|(at_builtin;refine Dp qh (.tmp 26) (.tmp 30) 97 qh base 102 _ 2 48 underlying97 kH qh qd _ P.length _ qh (AZ az (J _)) (some ⟨_,0,none⟩) 1 1 qh (JG ⟨ca,cc,va,vc,X,Ev r.x [] 0⟩) qh (λe=>qo) (CH _ _ _ _ qD) (kq _) qj qd (yi bB (J _).size) ?_;intro a7 c7 w7 ad d ae)|fail);obtain⟨bu,G7⟩:=An (aP.push (x:=⟨ca,cc,va,vc,X,Ev r.x [] 0⟩) H bi EX bp bh d ad) ((G6.C (J _)).grown d (TY _) OI);have bv:=d.size;simp at bv;obtain⟨B7,bz⟩:=An ((B6.c ((J _).j B6.size)).grown d (yi B6.size (J _).size) (λg l=>yi O (az.lt g l).1)) (PX.snoc (x:=⟨ca,cc,va,vc,X,Ev r.x [] 0⟩) HR HX rfl);clear ae;go_roundw;exact⟨k+1,a7,c7,P++[⟨ca,cc,va,vc,X,Ev r.x [] 0⟩],ag,ab,L',ac,D',qm,qf,qd,qe,bz.o,qd,H6.o,G7.o,bu.o,B7.o,qd⟩;simp[intOf];omega
 have bn:k=rs.length:=qd;subst bn;have hy:¬(rs.length:Int)<(rs.length:Int):=qd;have aB:=Ad (NF.dN G);obtain⟨wQ,aL⟩:=AF wr;rw[<-aL]at aB PL B bk⊢;clear G aL;go_wp2
 go_loopw [35] (λiv wr=>∃(k:Nat)(V:Aj),iv=I6 (k:Int)/\k<=fs.length/\NF wr base u base z v L m V (λ_=>LW fa fs k)/\EB base wQ wr) (λiv _=>fs.length-(intOf iv).toNat)
 .exact⟨0,_,rfl,yn _,aB,EB.refl _ _⟩
 obtain⟨j,V,rfl,bF,aN,am⟩:=hrel;obtain⟨NR,FT,AR⟩:=AK aN am (B.c (am.rest.j O));have bJ:=am.rest.size;have bq:base<=wr.heap.size:=qd;clear aN am aB;by_cases hj:j<fs.length
 .obtain⟨f,hf⟩:=Bq hj;obtain⟨Y,W,rfl,T,N,sa,sc,Z,aI⟩:=bm j f hf;have bH:=lg (some ⟨Y,W,none⟩) fs j;obtain⟨aZ,HQ⟩:=An (zla base u base z v L m V (LW (some ⟨Y,W,none⟩) fs j) (.pointer (some ⟨Y,W+j*3,none⟩)) f w wr AR O ⟨Y,W+j*3,rfl,T,N,sa,sc,Z,aI⟩ NR bq qd qd (λx hx=>yi (a0 x hx) qi)) (mw (b:=Y) (o:=W) hf);obtain⟨z0,z1⟩:=CZ hj;clear hf T N Z aI;go_wp2_with fail;refine aZ.rtn λw8⟨⟨V',U⟩,aH⟩=>?_;obtain⟨N8,F8⟩:=An U (FT.c aH);clear U aH aZ;go_wp2;exact⟨⟨j+1,V',qm,qd,by rw[HQ.o];exact N8,F8⟩,qp⟩
 have bw:j=fs.length:=qd;subst bw;have hy2:¬(fs.length:Int)<(fs.length:Int):=qd;go_wp2;go_ret;obtain⟨q1,q2⟩:=lZ bo fs.length Bg;rw[yZ]at q1;refine⟨?_,AR⟩;exact⟨pa,pc,base,u,base,z,v,L,m,V,P,_,by rw[PX.o.1];rfl,PX,PL.ft FT,NR,q1,q2⟩
structure Jc(E B:Nat) (w w':Aa):Prop where
 os:w'.os=w.os
 tape:w'.tape=w.tape
 output:w'.output=w.output
 size:w.heap.size<=w'.heap.size
 block:∀g,g<w.heap.size->(g<E∨B<=g)->w'.heap[g]?=w.heap[g]?
def Jc.refl(E B w):Jc E B w w:=by constructor<;>simp_all
def Jc.c{E B u v w}(h:Jc E B u v)(k:Jc E B v w):Jc E B u w:=⟨k.os.c h.os,k.tape.c h.tape,k.output.c h.output,yi h.size k.size,λg b a=>(k.block g (yg b h.size) a).c (h.block g b a)⟩
theorem Jc.e{E B u v w}(k:Below E u v)(b:E<=v.heap.size)(h:Jc E B v w):Below E u w:=⟨h.os.c k.os,h.tape.c k.tape,h.output.c k.output,yi k.size h.size,λg a=>(h.block g (yg a b) (.inl a)).c (k.block g a)⟩
def Jc.aa{E B base w w' e m v n xs}(h:Jc E B w w')(a:w.ownsRow base e m v n xs)(c:B<=base):w'.ownsRow base e m v n xs:=
 Ci a λk b=>h.block k (a.lt k b).2 (.inr (yi c (a.lt k b).1))
def PD.lk{E B base w w' ca cc b e X U A d}(h:PD w base ca cc b e X U A d)(hl:Jc E B w w')(a:B<=base):PD w' base ca cc b e X U A d:=
 ⟨hl.aa h.conds a,hl.aa h.vars a,λc f=>hl.aa (h.y c f) a,h.aI⟩
def Gg.lk{E B base w w' a c P A b}(h:Gg w base a c P A b)(hl:Jc E B w w')(d:B<=base):Gg w' base a c P A b:=
 ⟨hl.aa h.row d,λx e=>(h.V x e).lk hl d⟩
def NF.lk{E B w w' base a mb g j L m V QQ}(h:NF w base a mb g j L m V QQ)(hl:Jc E B w w')(e:B<=base)(o:B<=a):NF w' base a mb g j L m V QQ:=
 ⟨(hl.block a (Ap h.box) (.inr o)).c h.box,hl.aa h.row e,h.aW,h.aP,λi x b v d f hv=>by
  obtain⟨k,l,n,p⟩:=h.node i x b v d f hv
  exact⟨(hl.block b (Ap k) (.inr (yi e l))).c k,l,n,hl.aa p e⟩,λx d=>⟨(h.aM x d).1,hl.aa (h.aM x d).2 e⟩,h.apart⟩
structure Pw where
 ca:Af
 cc:Nat
 va:Af
 vc:Nat
 cs:List Cn
def SD(w:Aa)(B:Nat)(fs:Ab)(a:Af)(rs:Az)(PW:List Pw):Prop:=
 ∀(i:Nat)(r:Ru)(x:Pw),rs[i]?=some r->PW[i]?=some x->∃b o,a=some ⟨b,o,none⟩/\B<=b/\w.cell? ⟨b,o+i*2,none⟩=some (.slice x.ca x.cs.length x.cc)/\w.cell? ⟨b,o+i*2+1,none⟩=some (.slice x.va (Ev r.x [] 0).length x.vc)/\QZ w fs x.ca x.va r x.cs/\x.cs.length<=x.cc/\w.ownsRow B 330 3 (.slice x.va (Ev r.x [] 0).length x.vc) (Ev r.x [] 0).length ((Ev r.x [] 0).flatMap Ja)
theorem SD.e{w w' B fs a rs b}(h:SD w B fs a rs b)(c:Bw w w'):SD w' B fs a rs b:=by grind[Ja,SD,Ev,zab,AZ,QZ.e]
def Gg.at{w B base l mb v o L e V Q fs a c P rs}(h:Gg w B a c P (L.map Prod.fst) e)(H:NF w base l mb v o L e V (λ_=>Q))(C:Q.map Prod.snd=fs)(hF:∀y∈Q,DJ w y.1 y.2)(g:IL P rs rs.length)(q:∀r∈rs,∀p∈r.x,p.s.length<=6)(A:fs.length<=40):SD w B fs a rs (P.map λx=>⟨x.ca,x.cc,x.va,x.vc,x.X.map (CB fs)⟩):=by
 intro i r z d f;have G:i<P.length:=by rw[g.1];exact(yf.1 d).1
 obtain⟨x,b⟩:=Bq G;obtain⟨D,n⟩:=g.2 i x r b d;have key:=λj u(hj:(JG x)[j]?=some u)=>CG h.row (Hf (cells:=JG) (m:=2) (λ_=>rfl) P i x j u b hj);obtain⟨k,rfl,E,h0,_⟩:=key 0 _ rfl;obtain⟨I,t,_,h1,_⟩:=key 1 _ rfl;cases t;have O:=h.V x (yd b);have af:=PA O.conds;rw[n]at O h1;rw[yE,b]at f;cases f;exact⟨k,0,rfl,E,qK,qx,O.fq H C hF D (q r (yd d)) A,Sa,O.vars⟩
structure Kq(cb L M:Nat) (W W':Aa):Prop where
 os:W'.os=W.os
 tape:W'.tape=W.tape
 output:W'.output=W.output
 size:W.heap.size<=W'.heap.size
 block:∀k,k<W.heap.size->k≠cb->(k<L∨((k<M∨∃c t fr,W.heap[k]?=some (.cells c t fr))/\∀c fr,W.heap[k]?≠some (.cells c 45 fr)))->W'.heap[k]?=W.heap[k]?
def Kq.refl(cb L M W):Kq cb L M W W:=by constructor<;>simp_all
def Kq.c{cb L M U V W}(h:Kq cb L M U V)(k:Kq cb L M V W):Kq cb L M U W:=
 ⟨k.os.c h.os,k.tape.c h.tape,k.output.c h.output,yi h.size k.size,λj hj d a=>by
  have e:=h.block j hj d a
  refine(k.block j (yg hj h.size) d ?_).c e
  rcases a with a|⟨a,f⟩
  .exact .inl a
  refine .inr ⟨?_,λc b g=>f c b (e.z.c g)⟩
  rcases a with a|⟨c,t,b,a⟩
  .exact .inl a
  exact .inr ⟨c,t,b,e.c a⟩⟩
def Kq.box{cb L M b W g c t d}(h:Kq cb L M W g)(a:W.heap[b]?=some (.cells c t d))(f:b≠cb)(i:t≠45):g.heap[b]?=some (.cells c t d):=
 (h.block b (Ap a) f (.inr ⟨.inr ⟨c,t,d,a⟩,λj O e=>i (by rw[a]at e;injection e with e;injection e)⟩)).c a
abbrev Tk3:=Af × Af × Af
structure SK where
 wE:Aa
 w1:Aa
 B:Nat
 cb:Nat
 M:Nat
 l:Nat
 pb:Nat
 yb:Nat
 sb:Nat
 xb:Nat
 base:Nat
 gb:Nat
 mb:Nat
 ca:Af
 cc:Nat
 m:Nat
 vv:Value
 va:Af
 vc:Nat
 la:Af
 lc:Nat
 L:CD
 bs:A5
 V:Aj
 Q:Fs
 X:Ak
 U:AY
 fs:Ab
 mem:∀W,Jc wE.heap.size B w1 W->PD W base ca cc va vc X U (L.map Prod.fst) bs/\NF W base gb mb la lc L bs V (λ_=>Q)
 snd:Q.map Prod.snd=fs
 facs:∀y∈Q,DJ wE y.1 y.2
 e:Bw wE w1
 hm:m<=X.length
 h1:wE.heap.size<=cb
 h2:cb<B
 h3:w1.heap.size<=M
 n1:pb≠cb
 n2:yb≠cb
 n3:sb≠cb
 n4:xb≠cb
 f40:fs.length<=40
 small:∀c∈X,c.cp.y.length<=6
 X6:X.length<=6
 h4:B<=w1.heap.size
structure SX(K:SK) (W:Aa):Prop where
 lk:Jc K.wE.heap.size K.B K.w1 W
 pl:Bk W (K.pb) #[.slice K.ca K.m K.cc,K.vv] 102
 yl:Bk W (K.yb) #[.func (.yield K.l) #[] #[]] 192
 sd:Bk W (K.sb) #[.int .i64 (-1),.pointer none] 108
 sr:Bk W (K.xb) #[.func (.func 109) #[] #[.pointer (some ⟨K.pb,0,none⟩),.pointer (some ⟨K.yb,0,none⟩),.pointer (some ⟨K.sb,0,none⟩),.pointer (some ⟨K.xb,0,none⟩)]] 193
def SX.entry{K W}(h:SX K W):Below K.wE.heap.size K.wE W:=Jc.e K.e K.e.size h.lk
structure GZ(w:Aa) (p0 p1 p2:Af) (T:Ab):Prop where
 cP:E_ w (.pointer p0) (.pointer p1) (.pointer p2) T
 z0:T.length<=0->p0=none
 z1:T.length<=1->p1=none
 z2:T.length<=2->p2=none
 le:T.length<=3
def Sq(w:Aa):={y:Tk3 × Ab // GZ w y.1.1 y.1.2.1 y.1.2.2 y.2}
def TJ{w:Aa}(x:Sq w):Ab:=x.1.2
def Mi(K:SK)(J Jx:List (Sq K.wE)->Aa->Prop)(pre:List (Sq K.wE))(Ts:Am)(W:Aa)(e:Ending)(W':Aa):Prop:=
 (e=.returned (.bool true)/\∃ys:List (Sq K.wE),ys.map TJ=Ts/\J (pre++ys) W'/\Kq K.cb K.w1.heap.size K.M W W')∨(e=.returned (.bool false)/\∃q,Jx q W')
def E_.put{w b c a y T f}(h:E_ w (.pointer b) (.pointer c) (.pointer a) T)(e:T.length<3)(d:DJ w (.pointer y) f):E_ w (.pointer (if T.length=0 then y else b)) (.pointer (if T.length=1 then y else c)) (.pointer (if T.length=2 then y else a)) (T++[f]):=by grind[E_,DJ]
def GZ.put{w b c a y T f}(h:GZ w b c a T)(g:T.length<3)(d:DJ w (.pointer y) f):GZ w (if T.length=0 then y else b) (if T.length=1 then y else c) (if T.length=2 then y else a) (T++[f]):=by
 have hl:(T++[f]).length=T.length+1:=qf;refine⟨h.cP.put g d,λe=>?_,λe=>?_,λe=>?_,?_⟩
 .omega
 .rw[if_neg qd];exact h.z1 qd
 .rw[if_neg qd];exact h.z2 qd
 omega
def Mi.one{K J c pre d W e a}(h:Mi K J c pre d W e a):∃b:Bool,e=.returned (.bool b)/\Hid (b=true->∃ys:List (Sq K.wE),ys.map TJ=d/\J (pre++ys) a/\Kq K.cb K.w1.heap.size K.M W a)/\Hid (b=false->∃q,c q a):=by grind[Mi,Sq,Ad]
def Pq:madeCells #[I6 0] 3=#[I6 0,I6 0,I6 0]:=qg
def j8(w):(Instr.makeSlice 30 (I6 0) (I6 3)).run prog w=.ok (.slice (some ⟨w.heap.size,0,none⟩) 0 3) (w.alloc (.cells #[I6 0,I6 0,I6 0] 3)):=by
 obtain⟨i,a,d,b,O⟩:=info_parts Rr;have e:=run_make (P:=prog) w 30 3 i _ underlying30 a d .i64 .i64 0 3 qd qd (by rw[O];omega) qd;rw[e,b];exact congrArg (λc=>Result.ok (Value.slice (some ⟨w.heap.size,0,none⟩) 0 3) (w.alloc (.cells c 3))) Pq
def Uf{w:Aa}{base g}(h:Bk w g #[I6 0,I6 0,I6 0] 3)(a:base<=g):w.ownsRow base 3 1 (.slice (some ⟨g,0,none⟩) 0 3) 0 (Ay []):=
 ⟨rfl,.inr ⟨g,3,_,rfl,a,h,qd,qj,rfl,rfl⟩⟩
def mG{T:Ab}{k f}(h:T[k]?=some f):(T.take (k+1)).map (·.tag)=(T.take k).map (·.tag)++[f.tag]:=by
 rw[Yc,h];simp
def Ik(x0 x1 a w):(Instr.index 111 (.agg #[x0,x1,a]) (I6 0)).run prog w=.ok x0 w/\(Instr.index 111 (.agg #[x0,x1,a]) (I6 1)).run prog w=.ok x1 w/\(Instr.index 111 (.agg #[x0,x1,a]) (I6 2)).run prog w=.ok a w:=⟨qg,qg,qg⟩
def X8(xs:As)(w:Aa)(e:Ending)(w':Aa):Prop:=(∃a c,e=.returned (.slice a xs.length c)/\w'.ownsRow w.heap.size 3 1 (.slice a xs.length c) xs.length (Ay xs))/\Bw w w'
def kN{P:Prop}(h:P:=by
 obtain⟨f,hf⟩:=Bq hk
 first
  | (have _:=tP7
     obtain⟨pv,hp,af⟩:=TR 0 f hf)
  |(obtain⟨pv,hp,af⟩:=TR 1 f hf)
 simp at hp;subst hp;obtain⟨fb,fo,he,c0,_⟩:=af;injection he with he;subst he;have O:=Ad (mG hf)
 first
  | (have _:=tP7
     obtain⟨n,hn⟩:=AF (((T.take 0).map (·.tag)).length);obtain⟨xs,ah⟩:=AF ((T.take 0).map (·.tag)))
  | (obtain ⟨n,hn⟩:=AF (((T.take 1).map (·.tag)).length)
     obtain⟨xs,ah⟩:=AF ((T.take 1).map (·.tag)))
 rw[<-ah]at ROW hln hn O⊢;rw[<-hn]at ROW hln⊢;have HN:=Ad hn;clear hf hk hn ah TR
 first
  | (have _:=tP7
     obtain⟨j0,j1,j2⟩:(∀w,_)/\(∀w,_)/\(∀w,_):=⟨λw=>(Ik (.pointer (some ⟨fb,fo,none⟩)) (.pointer p1) (.pointer p2) w).1,λw=>(Ik (.pointer (some ⟨fb,fo,none⟩)) (.pointer p1) (.pointer p2) w).2.1,λw=>(Ik (.pointer (some ⟨fb,fo,none⟩)) (.pointer p1) (.pointer p2) w).2.2⟩)
  |(obtain⟨j0,j1,j2⟩:(∀w,_)/\(∀w,_)/\(∀w,_):=⟨λw=>(Ik (.pointer p0) (.pointer (some ⟨fb,fo,none⟩)) (.pointer p2) w).1,λw=>(Ik (.pointer p0) (.pointer (some ⟨fb,fo,none⟩)) (.pointer p2) w).2.1,λw=>(Ik (.pointer p0) (.pointer (some ⟨fb,fo,none⟩)) (.pointer p2) w).2.2⟩)
 go_wp2_with (first|(at_builtin;refine Dp (by rfl) (.tmp 13) (.tmp 18) 30 (by rfl) w.heap.size 3 _ 1 8 underlying30 Rr (by rfl) (by omega) _ n _ (by rfl) (AZ ROW (HWR _)) (some ⟨_,0,none⟩) 1 1 (by rfl) [I6 f.tag] (by rfl) (λe=>by cases e) (CH _ _ _ _ (by simp)) (by intro u hu;simp at hu;subst hu;rfl) (by unfold maxLen;omega) (by omega) (by simp;omega) ?_;intro a2 c2 w7 aj ai ak)|fail);obtain⟨T7,B7⟩:=An (show w7.ownsRow w.heap.size 3 1 (.slice a2 (n+1) c2) (n+1) (Ay (xs++[f.tag])) by have:=aj.o;rw[ZR];simpa using this) ((BR.c ((HWR _).j BR.size)).grown ai (by simp;omega) (λg hg=>(ROW.lt g hg).1));clear aj ai ak;go_roundw
 first
  | (have _:=tP7
     case rel=>exact⟨1,1,a2,c2,by go_num,rfl,by omega,by rw[O.o,yM,<-HN.o];rfl,by rw[O.o,yM,<-HN.o];exact T7,B7⟩)
  |(case rel=>exact⟨2,2,a2,c2,by go_num,rfl,by omega,by rw[O.o,yM,<-HN.o];rfl,by rw[O.o,yM,<-HN.o];exact T7,B7⟩)
 case measure=>(simp[intOf])
 ):P:=h
def pF(p0 p1 p2 T w)(m:GZ w p0 p1 p2 T) :
  Ca 59 #[.agg #[.pointer p0,.pointer p1,.pointer p2]] w (X8 (T.map (·.tag)) w):=by
 have l:=Ad m;have y:=m.le;have v:=j8;clear m;go_enter func59,ntmps59;go_upto_region 2 with fail;refine Ce ?_;intro G ai p q;obtain⟨B,x,t2⟩:=Ax p;obtain⟨D,t⟩:=An ai (Uf (base:=w.heap.size) q (Kg _));clear ai p q v;go_wp2_with fail;clear B x t2
 go_loopw [8,3] (λiv C wr=>∃(k:Nat)(b:Int)(a:Af)(c:Nat),iv=I6 b/\b=(k:Int)/\k<=3/\C=.slice a ((T.take k).map (·.tag)).length c/\wr.ownsRow w.heap.size 3 1 (.slice a ((T.take k).map (·.tag)).length c) ((T.take k).map (·.tag)).length (Ay ((T.take k).map (·.tag)))/\Bw w wr) (λiv _ _=>3-(intOf iv).toNat)
 .exact⟨0,0,_,3,rfl,rfl,yn _,rfl,t,D⟩
 obtain⟨k,b,a,c,rfl,af,E,rfl,ah,i⟩:=hrel;obtain⟨ROW,BR,TR⟩:=AK ah i (l.cP.e i);have H:=i.size;have hln:((T.take k).map (·.tag)).length<=3:=by rw[yu,YL];omega
 have HWR:=Ad (λo'=>Au.alloc Bg o':∀o',Bw wr (wr.alloc o'));clear ah i;rcases(show k=0∨k=1∨k=2∨k=3 by omega) with rfl|rfl|rfl|rfl
 .obtain rfl:b=0:=qd;clear af;by_cases hk:0<T.length
  .have tP7:=trivial;exact kN
  have d:=l.z0 qd;subst d;have O:=Ad (show T.take (0+1)=T.take 0 by rw[yR qd,yR qd]);obtain⟨j0,j1,j2⟩:(∀w,_)/\(∀w,_)/\(∀w,_):=⟨λw=>(Ik (.pointer none) (.pointer p1) (.pointer p2) w).1,λw=>(Ik (.pointer none) (.pointer p1) (.pointer p2) w).2.1,λw=>(Ik (.pointer none) (.pointer p1) (.pointer p2) w).2.2⟩
  go_wp2;go_roundw
  case rel=>exact⟨1,1,a,c,qm,rfl,qd,by rw[O.o],by rw[O.o];exact ROW,BR⟩
  case measure=>(simp[intOf])
 .obtain rfl:b=1:=qd;clear af;by_cases hk:1<T.length
  .exact kN
  have d:=l.z1 qd;subst d;have O:=Ad (show T.take (1+1)=T.take 1 by rw[yR qd,yR qd]);obtain⟨j0,j1,j2⟩:(∀w,_)/\(∀w,_)/\(∀w,_):=⟨λw=>(Ik (.pointer p0) (.pointer none) (.pointer p2) w).1,λw=>(Ik (.pointer p0) (.pointer none) (.pointer p2) w).2.1,λw=>(Ik (.pointer p0) (.pointer none) (.pointer p2) w).2.2⟩
  go_wp2;go_roundw
  case rel=>exact⟨2,2,a,c,qm,rfl,qd,by rw[O.o],by rw[O.o];exact ROW,BR⟩
  case measure=>(simp[intOf])
 .obtain rfl:b=2:=qd;clear af;by_cases hk:2<T.length
  .obtain⟨f,hf⟩:=Bq hk;obtain⟨pv,hp,A⟩:=TR 2 f hf;simp at hp;subst hp;obtain⟨fb,fo,he,c0,_⟩:=A;injection he with he;subst he;have O:=Ad (mG hf);obtain⟨n,hn⟩:=AF (((T.take 2).map (·.tag)).length);obtain⟨xs,r⟩:=AF ((T.take 2).map (·.tag));rw[<-r]at ROW hln hn O⊢;rw[<-hn]at ROW hln⊢;have HN:=Ad hn;clear hf hk hn r TR;obtain⟨j0,j1,j2⟩:(∀w,_)/\(∀w,_)/\(∀w,_):=⟨λw=>(Ik (.pointer p0) (.pointer p1) (.pointer (some ⟨fb,fo,none⟩)) w).1,λw=>(Ik (.pointer p0) (.pointer p1) (.pointer (some ⟨fb,fo,none⟩)) w).2.1,λw=>(Ik (.pointer p0) (.pointer p1) (.pointer (some ⟨fb,fo,none⟩)) w).2.2⟩
   go_wp2_with (first|(at_builtin;refine Dp qh (.tmp 13) (.tmp 18) 30 qh w.heap.size 3 _ 1 8 underlying30 Rr qh qd _ n _ qh (AZ ROW (HWR _)) (some ⟨_,0,none⟩) 1 1 qh [I6 f.tag] qh (λe=>qo) (CH _ _ _ _ qf) qP qj qd qe ?_;intro a2 c2 w7 aj ak z)|fail);obtain⟨T7,B7⟩:=An (show w7.ownsRow w.heap.size 3 1 (.slice a2 (n+1) c2) (n+1) (Ay (xs++[f.tag])) by have:=aj.o;rw[ZR];simpa using this) ((BR.c ((HWR _).j BR.size)).grown ak qe (λg hg=>(ROW.lt g hg).1));clear aj ak z;go_roundw
   case rel=>exact⟨3,3,a2,c2,qm,rfl,qd,by rw[O.o,yM,<-HN.o];rfl,by rw[O.o,yM,<-HN.o];exact T7,B7⟩
   case measure=>(simp[intOf])
  have d:=l.z2 qd;subst d;have O:=Ad (show T.take (2+1)=T.take 2 by rw[yR qd,yR qd]);obtain⟨j0,j1,j2⟩:(∀w,_)/\(∀w,_)/\(∀w,_):=⟨λw=>(Ik (.pointer p0) (.pointer p1) (.pointer none) w).1,λw=>(Ik (.pointer p0) (.pointer p1) (.pointer none) w).2.1,λw=>(Ik (.pointer p0) (.pointer p1) (.pointer none) w).2.2⟩
  go_wp2;go_roundw
  case rel=>exact⟨3,3,a,c,qm,rfl,qd,by rw[O.o],by rw[O.o];exact ROW,BR⟩
  case measure=>(simp[intOf])
 obtain rfl:b=3:=qd;clear af;have s:=Ad (show T.take 3=T from yR y);rw[s.o]at ROW⊢;go_wp2;go_ret;exact⟨⟨a,c,by rw[yu];rfl,ROW⟩,BR⟩
end
end Go.Proofs.YtikojfajahnhgaaGreat
