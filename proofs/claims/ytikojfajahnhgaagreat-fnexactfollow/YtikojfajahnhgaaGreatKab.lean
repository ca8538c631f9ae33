import Derived.Test.YtikojfajahnhgaaGreatQz
set_option linter.all false
set_option maxHeartbeats 800000
namespace Go
open Go.RowKit in
def zHB(w:World):∀o,Below w.heap.size w (w.alloc o):=λo=>(Below.refl _ _).alloc (Nat.le_refl _) o
open Go.RowKit in
def zHA(w:World):Hid (∀o,Below w.heap.size w (w.alloc o)):=zHB w
def Calls.an{P:Program}{f:FuncId}{args:Array Value}{w:World}{v:Value}{Q:World->Prop}{R:Ending->World->Prop}(h:Calls P f args w λe w'=>e=.returned v/\Q w')(k:∀w',Q w'->R (.returned v) w'):Calls P f args w R:=h.ac λ_ _⟨e,q⟩=>e▸k _ q
end Go
namespace Go.RowKit
def Below.aj{w u v:World}(h:Below w.heap.size w u)(k:Below u.heap.size u v):Below w.heap.size w v:=h.j (k.ac h.size)
end Go.RowKit
namespace Go.Proofs.YtikojfajahnhgaaGreat
open Go.RowKit Go.Proofs.Tryz
abbrev Bw(w w':World):Prop:=Below w.heap.size w w'
abbrev At(w:World)(b o:Nat)(v:Value):Prop:=w.cell? ⟨b,o,none⟩=some v
abbrev I6(n:Int):Value:=.int .i64 n
abbrev Pn(b:Nat):Value:=.pointer (some ⟨b,0,none⟩)
def Aj{B w}:Below B w w:=Yw B w
def AA{n:Nat}:n<=n:=yX n
def Af{w:World}{o}:Below w.heap.size w (w.alloc o):=(Yw _ _).alloc (yX _) _
def Ax{w:World}{o o'}:Below w.heap.size w ((w.alloc o).alloc o'):=Af.alloc qe _
def Ba{w:World}{o o' p}:Below w.heap.size w (((w.alloc o).alloc o').alloc p):=Ax.alloc qg _
def Ez{w:World}(o):Below w.heap.size w (w.alloc o):=Af
def LC{w:World}(o o'):Below w.heap.size w ((w.alloc o).alloc o'):=Ax
def AJ{α:Type}{l:List α}{k:Nat}(h:k<l.length):∃x,l[k]?=some x:=⟨l[k],by simp[h]⟩
def mz(n:Nat)(i:Value)(_w:World):Nat:=n-(intOf i).toNat
def mzI(n:Nat)(k:Int)(w:World):mz n (.int .i64 k) w=n-k.toNat:=rfl
attribute [local simp] At I6 Pn mzI
attribute [local go_sem] At I6 Pn
def Ga(c:Int):Bool:=decide (97<=c)&&decide (c<=122)
def Mm(c:Int):Bool:=decide (48<=c)&&decide (c<=57)
def I_(c:Int):Bool:=Ga c||Mm c||decide (c=45)
def TQ(c:UInt8):Bool:=Ga (c.toNat:Int)
def Hs(c:UInt8):Bool:=I_ (c.toNat:Int)
def Aw(s:List UInt8):Bool:=decide (1<=s.length)&&decide (s.length<=20)&&TQ (s.headD 0)&&s.all Hs
def wg{c}(h:Ga c=true):I_ c=true:=by simp[I_,h]
def SD{s}(h:s.length=0):Aw s=false:=by simp[Aw,h]
def ja{s}(h:20<s.length):Aw s=false:=by
 have:decide (s.length<=20)=false:=qq;simp[Aw,this]
def j4{s}(h:TQ (s.headD 0)=false):Aw s=false:=by simp only[Aw,h,Wz,WX]
def ul{s k}(a:k<s.length)(h:Hs s[k]=false):Aw s=false:=by
 have:s.all Hs=false:=by
  rw[Ku];exact⟨s[k],WZ a,by simp[h]⟩
 simp[Aw,this]
def zn{s}(b:1<=s.length)(a:s.length<=20)(c:TQ (s.headD 0)=true)(d:s.all Hs=true):Aw s=true:=by
 simp only[Aw,c,d,KG,yk,decide_eq_true_eq];exact⟨b,a⟩
def zjK{s:List UInt8}{k}(b:k<s.length)(h:(s.take k).all Hs=true)(a:Hs s[k]=true):(s.take (k+1)).all Hs=true:=by
 rw[WH b,KU,h];simp[a]
def GC{α:Type}(l:List α)(k x)(h:l[k]?=some x):l.take (k+1)=l.take k++[x]:=by
 obtain⟨a,rfl⟩:=yf.1 h;simp_all
def mD{α β:Type}(f:α->β)(l:List α)(k x)(h:l[k]?=some x):(l.take (k+1)).map f=(l.take k).map f++[f x]:=by
 obtain⟨a,rfl⟩:=yf.1 h;rw[WH a,yJ];rfl
def Ck{α:Type}{l:List α}{k x}(h:l[k]?=some x):l.drop k=x::l.drop (k+1):=by
 obtain⟨a,rfl⟩:=yf.1 h;exact WE a
def As{w:World}{g o}(h:w.heap[g]?=some o):g<w.heap.size:=(ym.1 h).1
def Fq{w:World}{g i c t a}(h:w.heap[g]?=some (.cells c t a))(x) :
  (w.setCell ⟨g,i,none⟩ x).heap[g]?=some (.cells (c.setIfInBounds i x) t a):=by
 simp[World.setCell,Y6,h]
def Xs:∀(vs:List Value)(o:Nat)(w:World)(g:Nat)(c:Array Value)(t:TypeId)(b:Nat × Nat),w.heap[g]?=some (.cells c t b) ->
  ∃a,(w.setCells g o vs).heap[g]?=some (.cells a t b)/\a.size=c.size/\(∀j x,vs[j]?=some x->o+j<c.size->a[o+j]?=some x)/\(∀i,i<o∨o+vs.length<=i->a[i]?=c[i]?)
 |[],o,w,g,c,t,b,h=>⟨c,h,rfl,λj x hj=>by simp at hj,λ_ _=>rfl⟩
 |v::r,o,w,g,c,t,b,h=>by
  obtain⟨a,m,l,k,f⟩:=Xs r (o+1) _ g _ t b (Fq (i:=o) h v)
  refine⟨a,m,by rw[l];simp,?_,?_⟩
  .intro j x hj d
   cases j with
   |zero=>
    simp at hj
    subst hj
    rw[YJ,f o (Or.inl (Xz o)),KV]
    simp at d
    simp[d]
   |succ j=>
    have:=k j x QE qg
    rwa [show o+1+j=o+(j+1) by omega]at this
  intro i e
  rw[f i (by simp at e;omega),KV,if_neg (by simp at e;omega)]
def Ah{W a}(c:Bw W a):(∀b o,b<W.heap.size->a.cell? ⟨b,o,none⟩=W.cell? ⟨b,o,none⟩)/\(∀b o,b<W.heap.size->a.frozen? ⟨b,o,none⟩=W.frozen? ⟨b,o,none⟩):=
 ⟨λb o h=>c.cell (p:=⟨b,o,none⟩) h,λb o h=>c.frozen (p:=⟨b,o,none⟩) h⟩
abbrev Kc(u w:World):Prop:=∀b o,b<u.heap.size->w.cell? ⟨b,o,none⟩=u.cell? ⟨b,o,none⟩
def ES{w:World}{b o:Nat}{v:Value}(h:At w b o v):b<w.heap.size:=yZ _ _ h
def Kc.nx{u v w:World}(h:Kc u v)(a:Bw v w)(c:u.heap.size<=v.heap.size):Kc u w:=λb o hl=>((Ah a).1 b o qd).j (h b o hl)
def Kc.dr{u:World}:Kc u u.drew:=λ_ _ _=>by simp
def AX(w:World)(g:Nat)(t:TypeId)(m N:Nat)(rs:List (List Value)):Prop:=
 ∃c:Array Value,w.heap[g]?=some (.cells c t (0,0))/\c.size=N*m/\rs.length<=N/\∀i r,rs[i]?=some r->r.length=m/\∀j x,r[j]?=some x->c[i*m+j]?=some x
def AX.lt{w g t m N rs}(h:AX w g t m N rs):g<w.heap.size:=by
 obtain⟨c,a,_⟩:=h;exact As a
def AX.bD{w w' g t m N rs}(h:AX w g t m N rs)(e:w'.heap[g]?=w.heap[g]?):AX w' g t m N rs:=by
 obtain⟨c,b,a⟩:=h;exact⟨c,e.j b,a⟩
def AX.J{w w' g B t m N rs}(h:AX w g t m N rs)(b:Below B w w')(a:g<B):AX w' g t m N rs:=
 h.bD (b.block g a)
def AX.cell{w g t m N rs}(h:AX w g t m N rs){i j r x}(d:rs[i]?=some r)(hj:r[j]?=some x) :
  At w g (i*m+j) x:=by
 obtain⟨c,a,_,_,b⟩:=h;simp[World.cell?,a,(b i r d).2 j x hj]
def AX.there{w g t m N rs}(h:AX w g t m N rs){i j}(e:i<N)(hj:j<m):∃x,At w g (i*m+j) x:=by
 obtain⟨c,d,b,_,_⟩:=h;have a:i*m+j<c.size:=by
  rw[b];have:(i+1)*m<=N*m:=YQ m e;rw[Kv]at this;omega
 exact⟨c[i*m+j],by simp[World.cell?,d,a]⟩
def AX.free{w g t m N rs}(h:AX w g t m N rs)(i):w.frozen? ⟨g,i,none⟩=false:=by
 obtain⟨c,a,_⟩:=h;simp[World.frozen?,a]
def AX.ef{w g t N rs}(h:AX w g t 3 N rs){i}(a:i<N) :
  (∃ x,At w g (i * 3) x)/\(∃ x,At w g (i * 3+1) x)/\(∃ x,At w g (i * 3+2) x) /\
   w.frozen? ⟨g,i*3,none⟩=false/\w.frozen? ⟨g,i*3+1,none⟩=false/\w.frozen? ⟨g,i*3+2,none⟩=false:=
 ⟨h.there (j:=0) a qd,h.there (j:=1) a qd,h.there (j:=2) a qd,h.free _,h.free _,h.free _⟩
def AX.put{w g t m N rs}(h:AX w g t m N rs)(r)(n:r.length=m)(k:rs.length<N):AX (w.setCells g (rs.length*m) r) g t m N (rs++[r]):=by
 obtain⟨c,p,d,z,v⟩:=h;obtain⟨y,l,s,u,f⟩:=Xs r (rs.length*m) w g c t (0,0) p;refine⟨y,l,by rw[s,d],qg,?_⟩;intro i q a;by_cases b:i<rs.length
 .rw[yB b]at a;obtain⟨e,o⟩:=v i q a;refine⟨e,λj x hj=>?_⟩;have Y:j<q.length:=(yf.1 hj).1;rw[f _ (Or.inl ?_)]
  .exact o j x hj
  have:(i+1)*m<=rs.length*m:=YQ m b;rw[Kv]at this;omega
 have O:i<(rs++[r]).length:=(yf.1 a).1;simp at O;obtain rfl:i=rs.length:=qd;simp at a;subst a;refine⟨n,λj x hj=>u j x hj ?_⟩;have Y:j<r.length:=(yf.1 hj).1;rw[d];have:(rs.length+1)*m<=N*m:=YQ m k;rw[Kv]at this;omega
def AX.aB{w g t m N rs}(h:AX w g t m N rs){p}(a:g≠p.block)(x):AX (w.setCell p x) g t m N rs:=
 h.bD (Yb _ _ _ _ a)
def AX.di{w g t N k rs}(h:AX w g t 3 N rs)(b:rs.length=k)(a:k<N)(x y z) :
  AX (((w.setCell ⟨g,k*3,none⟩ x).setCell ⟨g,k*3+1,none⟩ y).setCell ⟨g,k*3+2,none⟩ z) g t 3 N (rs++[[x,y,z]]):=by
 subst b;exact h.put [x,y,z] rfl a
def AX.made(w:World)(z t m N):AX (w.alloc (.cells (madeCells z (N*m)) t)) w.heap.size t m N []:=
 ⟨_,heap_alloc_new _ _,size_madeCells _ _,yA _,λi r h=>by simp at h⟩
def AX.alloc{w g t m N rs}(h:AX w g t m N rs)(o):AX (w.alloc o) g t m N rs:=
 h.bD (yV _ _ _ h.lt)
abbrev V:=Int × Int × ByteArray
def V.kind(v:V):Int:=v.1
def V.num(v:V):Int:=v.2.1
def V.av(v:V):ByteArray:=v.2.2
def V.same{v u:V}(c:v.kind=u.kind)(a:v.num=u.num)(b:v.av=u.av):v=u:=Prod.ext c (Prod.ext a b)
structure F where
 tag:Int
 ak:ByteArray
 ad:List V
def Bj(w:World)(a:Option Addr)(vs:List V):Prop:=
 ∀ (i:Nat) (v:V),vs[i]?=some v->∃ b o,a=some ⟨b,o,none⟩/\w.cell? ⟨b,o+i * 3,none⟩=some (.int .i64 v.kind) /\
  w.cell? ⟨b,o+i*3+1,none⟩=some (.int .i64 v.num)/\w.cell? ⟨b,o+i*3+2,none⟩=some (.string v.av)
def BC(w:World)(a:Option Addr)(fs:List F):Prop:=
 ∀ (i:Nat) (f:F),fs[i]?=some f->∃ b o,a=some ⟨b,o,none⟩/\w.cell? ⟨b,o+i * 3,none⟩=some (.int .i64 f.tag) /\
  w.cell? ⟨b,o+i*3+1,none⟩=some (.string f.ak)/\∃a' c,w.cell? ⟨b,o+i*3+2,none⟩=some (.slice a' f.ad.length c)/\Bj w a' f.ad
def zab{w w' p x}(a:Bw w w')(h:w.cell? p=some x):w'.cell? p=some x:=by
 rw[a.cell (p:=p) ?_]
 .exact h
 unfold World.cell? at h;by_cases b:p.block<w.heap.size
 .exact b
 rw[Kw qd]at h;simp at h
def Bj.J{w w' a vs}(h:Bj w a vs)(c:Bw w w'):Bj w' a vs:=by
 intro i v hv;obtain⟨b,o,rfl,f,e,d⟩:=h i v hv;exact⟨b,o,rfl,zab c f,zab c e,zab c d⟩
def BC.J{w w' a fs}(h:BC w a fs)(d:Bw w w'):BC w' a fs:=by
 intro i f l;obtain⟨b,o,rfl,m,g,k,c,e,j⟩:=h i f l;exact⟨b,o,rfl,zab d m,zab d g,k,c,zab d e,j.J d⟩
def V.cells(v:V):List Value:=[.int .i64 v.kind,.int .i64 v.num,.string v.av]
def A_(f:F)(x:Value):List Value:=[.int .i64 f.tag,.string f.ak,x]
def Bj.own{w g t N vs}(h:AX w g t 3 N (vs.map V.cells)):Bj w (some ⟨g,0,none⟩) vs:=by
 intro i v hv;have a:(vs.map V.cells)[i]?=some v.cells:=by simp[hv]
 refine⟨g,0,rfl,?_,?_,?_⟩
 .simpa using h.cell a (j:=0) rfl
 .simpa using h.cell a (j:=1) rfl
 simpa using h.cell a (j:=2) rfl
def IZ(v:V):Nat:=v.av.size
def Ik(vs:List V):Nat:=vs.length+(vs.map IZ).sum
def Ma{α:Type}(g:α->Nat)(l:List α)(k x)(h:l[k]?=some x):((l.take (k+1)).map g).sum=((l.take k).map g).sum+g x:=by
 obtain⟨a,rfl⟩:=yf.1 h;rw[WH a,yJ,Kj];simp only[yn,YF,YN,List.sum_nil,YJ]
def E_{k a b}(h:a=b):Ending.returned (.int k a)=.returned (.int k b):=by rw[h]
def Bu(v:V):Bool:=(v.kind==0&&v.av.toList.isEmpty)||(v.kind==1&&(v.num==0&&Aw v.av.data.toList))
def C4(vs:List V):Bool:=decide (vs.length<=6)&&vs.all Bu
def Hj(last:Int)(f:F):Bool:=decide (last<f.tag)&&(decide (f.tag<=1000000)&&(Aw f.ak.data.toList&&C4 f.ad))
def BO(last:Int):List F->Bool
 |[]=>true
 |f::r=>Hj last f&&BO f.tag r
def DC(fs:List F):Bool:=decide (fs.length<=40)&&BO 0 fs
def GX(sg:Bool)(f g:F):Bool:=!(sg&&(decide (g.ak=f.ak)&&decide (f.ad=g.ad)))
def CM(sg:Bool)(f:F)(pre:List F):Bool:=pre.all (GX sg f)
def Bs(sg:Bool)(nx:Int):List F->List F->Bool
 |_,[]=>true
 |pre,f::r=>decide (f.tag<nx)&&(CM sg f pre&&Bs sg nx (pre++[f]) r)
def FU(fs:List F)(nx cp:Int):Bool:=decide (0<=cp)&&(decide (cp<=40)&&(decide ((fs.length:Int)<=cp)&&(DC fs&&(decide (1<=nx)&&decide (nx<=1000001)))))
def Cg(fs:List F)(nx cp:Int)(sg:Bool):Bool:=FU fs nx cp&&Bs sg nx [] fs
abbrev Lk:=ByteArray × List V
def Bn(f:F):Lk:=(f.ak,f.ad)
def Py{f g}:Bn f=Bn g↔f.ak=g.ak/\f.ad=g.ad:=YW _ _ _ _▸Iff.rfl
def Of(nx:Int)(fs:List F):Bool:=match fs.getLast? with|some f=>decide (f.tag<nx)|none=>true
def LS(fs:List F)(nx cp:Int)(sg:Bool):Bool:=FU fs nx cp&&(Of nx fs&&(!sg||decide ((fs.map Bn).Nodup)))
def V3{last}:∀{fs:List F},BO last fs=true->∀f∈fs,∀l,fs.getLast?=some l->f.tag<=l.tag
 |[],_,f,hf,_,_=>by simp at hf
 |g::r,h,f,hf,l,hl=>by
  simp only[BO,yk]at h
  cases r with
  |nil=>
   simp at hf hl
   subst hf
   subst hl
   exact Wm _
  |cons O d=>
   have a:(O::d).getLast?=some l:=Mh
   rcases yO.1 hf with rfl|c
   .have e:=V3 h.2 O qe l a
    have b:=h.2
    simp only[BO,Hj,yk,decide_eq_true_eq]at b
    omega
   exact V3 h.2 f c l a
def wX{last nx fs}(h:BO last fs=true):Of nx fs=fs.all (λf=>decide (f.tag<nx)):=by
 unfold Of;cases hl:fs.getLast? with
 |none=>
  have:fs=[]:=Mh;simp[this]
 |some l=>
  have b:l∈fs:=List.mem_of_getLast? hl;by_cases a:l.tag<nx
  .have:fs.all (λf=>decide (f.tag<nx))=true:=by
    rw[YX];intro f c;have:=V3 h f c l hl;simp;omega
   simp[this,a]
  have:fs.all (λf=>decide (f.tag<nx))=false:=by
   rw[Ku];exact⟨l,b,by simpa using a⟩
  simp[this,a]
def zmk(sg:Bool)(nx:Int):∀(fs a:List F),Bs sg nx a fs=(fs.all (λf=>decide (f.tag<nx))&&Bs sg (nx) a fs)
 |[],_=>by simp[Bs]
 |f::r,a=>by
  simp only[Bs,Y3]
  rw[zmk sg nx r (a++[f])]
  cases decide (f.tag<nx)<;>cases CM sg f a<;>cases r.all (λf=>decide (f.tag<nx))<;>cases Bs sg nx (a++[f]) r<;>rfl
def Xi(nx):∀(fs a:List F),Bs false nx a fs=fs.all (λf=>decide (f.tag<nx))
 |[],_=>by simp[Bs]
 |f::r,a=>by
  simp only[Bs,Y3]
  rw[Xi nx r (a++[f])]
  have:CM false f a=true:=by simp[CM,GX]
  simp[this]
def jf(f a):CM true f a=true↔Bn f ∉ a.map Bn:=by
 unfold CM;rw[YX];constructor
 .intro h i;obtain⟨g,b,c⟩:=yz.1 i;have:=h g b;rw[Py]at c;simp[GX,c.1,c.2]at this
 intro h g b;simp only[GX,YP,WI,WV,decide_eq_false_iff_not];by_cases d:g.ak=f.ak
 .right;intro e;exact h (yz.2 ⟨g,b,Py.2 ⟨d,e.ai⟩⟩)
 left;exact d
def VL(nx):∀(fs c:List F),(c.map Bn).Nodup->Bs true nx c fs=(fs.all (λf=>decide (f.tag<nx))&&decide (((c++fs).map Bn).Nodup))
 |[],c,h=>by simp[Bs,h]
 |f::r,c,h=>by
  simp only[Bs,Y3]
  by_cases d:Bn f∈c.map Bn
  .have:¬((c++f::r).map Bn).Nodup:=by
    rw[yJ,yP];rintro⟨_,_,j⟩;exact j (Bn f) d (Bn f) qe rfl
   have k:CM true f c=false:=by
    cases i:CM true f c
    .rfl
    exact absurd d ((jf f c).1 i)
   rw[decide_eq_false this,k];simp
  have Y:((c++[f]).map Bn).Nodup:=by
   rw[yJ,yP];refine⟨h,qe,?_⟩;intro a O b g;simp at g;subst g;intro e;exact d (e▸O)
  rw[VL nx r (c++[f]) Y,(jf f c).2 d,YP,Yc,Bool.and_assoc];rfl
def zY(fs nx cp sg):LS fs nx cp sg=Cg fs nx cp sg:=by
 unfold LS Cg;cases a:FU fs nx cp with
 |false=>rfl
 |true=>
  have b:BO 0 fs=true:=by
   simp only[FU,DC,yk]at a;exact a.2.2.2.1.2
  rw[wX b];cases sg with
  |false=>simp[Xi]
  |true=>
   rw[VL nx fs [] qe];simp
def Qb(q:Option Nat)(w:World)(t:TypeId)(b:Nat):Prop:=∀B,q=some B->B<=b/\∃c,w.heap[b]?=some (.cells c t (0,0))
def Du(B:Nat)(w w':World):Prop:=∀b,B<=b->w'.heap[b]?=w.heap[b]?
def Du.refl(B w):Du B w w:=λ_ _=>rfl
def Du.j{B w w' O}(h:Du B w w')(Y:Du B w' O):Du B w O:=λb a=>(Y b a).j (h b a)
def Du.setCell{B g i w}(c:g<B)(x):Du B w (w.setCell ⟨g,i,none⟩ x):=λb a=>Yb _ _ _ _ qg
def Du.setCells{B g}(a:g<B):∀(vs:List Value)(o:Nat)(w:World),Du B w (w.setCells g o vs)
 |[],_,_=>Du.refl _ _
 |v::r,o,_=>(Du.setCell a v).j (Du.setCells a r (o+1) _)
def Qb.bare(w t b):Qb none w t b:=λB h=>by cases h
def Qb.low{B w w' t b}(h:Qb (some B) w t b)(d:Du B w w'):Qb (some B) w' t b:=by
 intro O e;obtain⟨a,c,f⟩:=h O e;injection e with e;subst e;exact⟨a,c,(d b a).j f⟩
def Qb.ax{B O}(c:O<=B){w t b}(h:Qb (some B) w t b):Qb (some O) w t b:=by
 intro Y e;injection e with e;subst e;obtain⟨d,a⟩:=h B rfl;exact⟨qd,a⟩
def Qb.J{q w w' t b}(h:Qb q w t b)(d:Bw w w'):Qb q w' t b:=by
 cases q with
 |none=>exact Qb.bare _ _ _
 |some B=>
  intro O e;obtain⟨f,c,a⟩:=h O e;exact⟨f,c,(d.block b (As a)).j a⟩
section
variable {α : Type}
def Bq(R:World->List Value->α->Prop)(q:Option Nat)(t:TypeId)(m:Nat)(w:World)(a:Option Addr)(xs:List α):Prop:=
 ∀(i:Nat)(x:α),xs[i]?=some x->∃b o r,a=some ⟨b,o,none⟩/\Qb q w t b/\r.length=m/\(∀j v,r[j]?=some v->w.cell? ⟨b,o+i*m+j,none⟩=some v)/\R w r x
variable {R R' : World -> List Value -> α -> Prop} {q q' : Option Nat} {t : TypeId} {m : Nat} {w w' : World} {a : Option Addr} {xs : List α}
def Bq.nil:Bq R q t m w a ([]:List α):=λi x h=>by simp at h
def Bq.J(h:Bq R q t m w a xs)(n:∀r x,x∈xs->R w r x->R w' r x)(d:Bw w w'):Bq R q t m w' a xs:=by
 intro i x c;obtain⟨b,o,r,f,k,g,l,e⟩:=h i x c;exact⟨b,o,r,f,k.J d,g,λj v hj=>zab d (l j v hj),n r x (yd c) e⟩
def Bq.low{B}(h:Bq R (some B) t m w a xs)(l:∀r x,x∈xs->R w r x->R w' r x)(c:Du B w w'):Bq R (some B) t m w' a xs:=by
 intro i x d;obtain⟨b,o,r,k,e,f,p,g⟩:=h i x d;refine⟨b,o,r,k,e.low c,f,λj v hj=>?_,l r x (yd d) g⟩;obtain⟨n,_⟩:=e B rfl;have:=p j v hj;unfold World.cell? at this⊢;rw[c b n];exact this
def Bq.aK(h:Bq R q t m w a xs)(d:∀b,Qb q w t b->Qb q' w t b)(l:∀r x,x∈xs->R w r x->R' w r x):Bq R' q' t m w a xs:=by
 intro i x c;obtain⟨b,o,r,f,j,g,k,e⟩:=h i x c;exact⟨b,o,r,f,d b j,g,k,l r x (yd c) e⟩
def Bq.drop(h:Bq R q t m w a xs){b o k}(O:a=some ⟨b,o,none⟩):Bq R q t m w (some ⟨b,o+k*m,none⟩) (xs.drop k):=by
 intro i x d;rw[WA]at d;obtain⟨Y,o',r,c,l,g,p,f⟩:=h (k+i) x d;rw[O]at c;injection c with c;injection c with e n _;subst e n;refine⟨b,o+k*m,r,rfl,l,g,λj v hj=>?_,f⟩;have:=p j v hj;rwa [show o+(k+i)*m+j=o+k*m+i*m+j by rw[Qp];omega]at this
def Bq.take(h:Bq R q t m w a xs)(k):Bq R q t m w a (xs.take k):=by
 intro i x b;rw[YU]at b;split at b
 .exact h i x b
 cases b
def Dx(R:World->List Value->α->Prop)(t:TypeId)(m:Nat)(w:World)(g N:Nat)(xs:List α):Prop:=
 ∃rows,AX w g t m N rows/\rows.length=xs.length/\∀(i:Nat)(x:α)(r:List Value),xs[i]?=some x->rows[i]?=some r->R w r x
def Dx.lt{g N}(h:Dx R t m w g N xs):g<w.heap.size:=by
 obtain⟨_,h,_⟩:=h;exact h.lt
def Dx.at{g N B}(h:Dx R t m w g N xs)(k:B<=g):Bq R (some B) t m w (some ⟨g,0,none⟩) xs:=by
 obtain⟨rows,n,hl,q⟩:=h;intro i x d;have p:i<rows.length:=by rw[hl];exact(yf.1 d).1
 have a:rows[i]?=some rows[i]:=yK p;obtain⟨c,b,o,l,f⟩:=n;refine⟨g,0,rows[i],rfl,?_,(f i _ a).1,?_,q i x _ d a⟩
 .intro O e;injection e with e;subst e;exact⟨k,c,b⟩
 intro j v hj;rw[Yt];exact AX.cell ⟨c,b,o,l,f⟩ a hj
def Dx.start(z N):Dx R t m (w.alloc (.cells (madeCells z (N*m)) t)) w.heap.size N ([]:List α):=
 ⟨[],AX.made _ _ _ _ _,rfl,λi x r hx=>qN⟩
def Dx.J{g N}(h:Dx R t m w g N xs)(e:∀r x,x∈xs->R w r x->R w' r x)(d:Bw w w'):Dx R t m w' g N xs:=by
 obtain⟨rows,b,hl,h⟩:=h;exact⟨rows,b.J d b.lt,hl,λi x r a c=>e r x (yd a) (h i x r a c)⟩
def Dx.room{g N k}(h:Dx R t m w g N xs)(a:k<N)(j)(hj:j<m):∃x,At w g (k*m+j) x:=by
 obtain⟨rows,b,_⟩:=h;exact b.there a hj
def Dx.free{g N}(h:Dx R t m w g N xs)(i):w.frozen? ⟨g,i,none⟩=false:=by
 obtain⟨rows,a,_⟩:=h;exact a.free i
def Dx.put{g N k x r}(h:Dx R t m w g N xs)(n:xs.length=k)(l:k<N)(j:r.length=m)(d:R w r x)(c:∀s y,(y∈xs∨y=x)->R w s y->R (w.setCells g (k*m) r) s y):Dx R t m (w.setCells g (k*m) r) g N (xs++[x]):=by
 obtain⟨rows,e,hl,h⟩:=h;refine⟨rows++[r],?_,K2,?_⟩
 .have:=e.put r j qd;rwa [show rows.length=k by omega]at this
 intro i y s a b;by_cases f:i<xs.length
 .rw[yB f]at a;rw[yB qd]at b;exact c _ _ (.inl (yd a)) (h i y s a b)
 have O:i<(xs++[x]).length:=(yf.1 a).1;simp at O;obtain rfl:i=xs.length:=qd;simp at a;rw[yF qd]at b;simp[hl]at b;subst a b;exact c _ _ (.inr rfl) d
end
def EY{α:Type}(sz:α->Nat)(xs:List α):Nat:=xs.length+(xs.map sz).sum
def CP{α:Type}(le:Nat->α->Prop)(N:Nat)(xs:List α):Prop:=xs.length<=N/\∀x∈xs,le N x
def uI{α:Type}(g:α->Nat)(l:List α)(x)(h:x∈l):g x<=(l.map g).sum:=by
 induction l with
 |nil=>simp at h
 |cons y r O=>
  simp only[yn,YN];rcases yO.1 h with rfl|h
  .omega
  have:=O h;omega
def Pk{α a b}(h:∀N x,a x<=N->b N x){N}{xs:List α}(c:EY a xs<=N):CP b N xs:=by
 unfold EY at c;refine⟨qd,λx d=>h N x ?_⟩;have:=uI a xs x d;omega
def Jy(_:World)(r:List Value)(x:Int):Prop:=r=[.int .i64 x]
def uY{w w' r x}(h:Jy w r x):Jy w' r x:=h
abbrev Bf(q:Option Nat)(w:World)(a:Option Addr)(xs:List Int):Prop:=Bq Jy q 3 1 w a xs
def Bf.J{q w w' a xs}(h:Bf q w a xs)(b:Bw w w'):Bf q w' a xs:=Bq.J h (λ_ _ _ h=>h) b
def Bf.low{B w w' a xs}(h:Bf (some B) w a xs)(b:Du B w w'):Bf (some B) w' a xs:=Bq.low h (λ_ _ _ h=>h) b
def Bf.ax{B O}(b:O<=B){w a xs}(h:Bf (some B) w a xs):Bf (some O) w a xs:=Bq.aK h (λ_=>Qb.ax b) (λ_ _ _ h=>h)
def Bf.bare{q w a xs}(h:Bf q w a xs):Bf none w a xs:=Bq.aK h (λb _=>Qb.bare _ _ b) (λ_ _ _ h=>h)
def Bf.get{q w a xs i x}(h:Bf q w a xs)(g:xs[i]?=some x):∃b o,a=some ⟨b,o,none⟩/\Qb q w 3 b/\At w b (o+i) (I6 x):=by
 obtain⟨b,o,r,f,c,j,d,e⟩:=h i x g;subst e;exact⟨b,o,f,c,by simpa using d 0 _ rfl⟩
structure Tm where
 kind:Int
 op:Int
 var:ByteArray
 val:V
def Tm.R(_:World)(r:List Value)(x:Tm):Prop:=r=[.int .i64 x.kind,.int .i64 x.op,.string x.var,.int .i64 x.val.kind,.int .i64 x.val.num,.string x.val.av]
def Tm.bt{w w' r x}(h:Tm.R w r x):Tm.R w' r x:=h
abbrev CJ(q:Option Nat)(w:World)(a:Option Addr)(xs:List Tm):Prop:=Bq Tm.R q 189 6 w a xs
def CJ.J{q w w' a xs}(h:CJ q w a xs)(b:Bw w w'):CJ q w' a xs:=Bq.J h (λ_ _ _ h=>h) b
def CJ.low{B w w' a xs}(h:CJ (some B) w a xs)(b:Du B w w'):CJ (some B) w' a xs:=Bq.low h (λ_ _ _ h=>h) b
def CJ.ax{B O}(b:O<=B){w a xs}(h:CJ (some B) w a xs):CJ (some O) w a xs:=Bq.aK h (λ_=>Qb.ax b) (λ_ _ _ h=>h)
def CJ.bare{q w a xs}(h:CJ q w a xs):CJ none w a xs:=Bq.aK h (λb _=>Qb.bare _ _ b) (λ_ _ _ h=>h)
def CJ.get{q w a xs i x}(h:CJ q w a xs)(hi:xs[i]?=some x):∃b o,a=some ⟨b,o,none⟩/\Qb q w 189 b/\At w b (o+i*6) (I6 x.kind)/\At w b (o+i*6+1) (I6 x.op)/\At w b (o+i*6+2) (.string x.var)/\At w b (o+i*6+3) (I6 x.val.kind)/\At w b (o+i*6+4) (I6 x.val.num)/\At w b (o+i*6+5) (.string x.val.av):=by
 exact oC
def Tm.sz(x:Tm):Nat:=x.var.size+IZ x.val
def Tm.le(N:Nat)(x:Tm):Prop:=x.var.size<=N/\x.val.av.size<=N
def Tm.be(N)(x:Tm)(h:x.sz<=N):x.le N:=by
 unfold Tm.sz at h;exact⟨qd,by unfold IZ at h;omega⟩
structure Pt where
 neg:Bool
 ak:ByteArray
 aa:List Tm
def Pt.R(q:Option Nat)(w:World)(r:List Value)(x:Pt):Prop:=∃a_terms c_terms,r=[.bool x.neg,.string x.ak,.slice a_terms x.aa.length c_terms]/\CJ q w a_terms x.aa/\x.aa.length<=c_terms
abbrev CH(q:Option Nat)(w:World)(a:Option Addr)(xs:List Pt):Prop:=Bq (Pt.R q) q 152 3 w a xs
def CH.J{q w w' a xs}(h:CH q w a xs)(d:Bw w w'):CH q w' a xs:=Bq.J h (λ_ _ _⟨c,b,e,O,cp⟩=>⟨c,b,e,O.J d,cp⟩) d
def CH.low{B w w' a xs}(h:CH (some B) w a xs)(d:Du B w w'):CH (some B) w' a xs:=Bq.low h (λ_ _ _⟨c,b,e,O,cp⟩=>⟨c,b,e,O.low d,cp⟩) d
def CH.ax{B Y}(d:Y<=B){w a xs}(h:CH (some B) w a xs):CH (some Y) w a xs:=Bq.aK h (λ_=>Qb.ax d) (λ_ _ _⟨c,b,e,O,cp⟩=>⟨c,b,e,O.ax d,cp⟩)
def CH.bare{q w a xs}(h:CH q w a xs):CH none w a xs:=Bq.aK h (λb _=>Qb.bare _ _ b) (λ_ _ _⟨d,c,e,O,cp⟩=>⟨d,c,e,O.bare,cp⟩)
def CH.get{q w a xs i x}(h:CH q w a xs)(f:xs[i]?=some x):∃b o c d,a=some ⟨b,o,none⟩/\Qb q w 152 b/\At w b (o+i*3) (.bool x.neg)/\At w b (o+i*3+1) (.string x.ak)/\At w b (o+i*3+2) (.slice c x.aa.length d)/\CJ q w c x.aa:=by
 obtain⟨b,o,r,k,g,l,e,j⟩:=h i x f;obtain⟨c,d,rfl,O,_⟩:=j;exact⟨b,o,c,d,k,g,e 0 _ rfl,e 1 _ rfl,e 2 _ rfl,O⟩
def CH.dj{q w a xs i x}(h:CH q w a xs)(f:xs[i]?=some x):∃b o d c,a=some ⟨b,o,none⟩/\Qb q w 152 b/\At w b (o+i*3) (.bool x.neg)/\At w b (o+i*3+1) (.string x.ak)/\At w b (o+i*3+2) (.slice d x.aa.length c)/\CJ q w d x.aa/\x.aa.length<=c:=by
 obtain⟨b,o,r,k,g,l,e,j⟩:=h i x f;obtain⟨d,c,rfl,O,cp⟩:=j;exact⟨b,o,d,c,k,g,e 0 _ rfl,e 1 _ rfl,e 2 _ rfl,O,cp⟩
def Pt.sz(x:Pt):Nat:=x.ak.size+EY Tm.sz x.aa
def Pt.le(N:Nat)(x:Pt):Prop:=x.ak.size<=N/\CP Tm.le N x.aa
def Pt.be(N)(x:Pt)(h:x.sz<=N):x.le N:=by
 unfold Pt.sz at h;exact⟨qd,Pk Tm.be qd⟩
structure Ex where
 kind:Int
 op:Int
 var:ByteArray
 val:V
 a:Int
 b:Int
def Ex.R(_:World)(r:List Value)(x:Ex):Prop:=r=[.int .i64 x.kind,.int .u8 x.op,.string x.var,.int .i64 x.val.kind,.int .i64 x.val.num,.string x.val.av,.int .i64 x.a,.int .i64 x.b]
def Ex.bt{w w' r x}(h:Ex.R w r x):Ex.R w' r x:=h
abbrev BP(q:Option Nat)(w:World)(a:Option Addr)(xs:List Ex):Prop:=Bq Ex.R q 225 8 w a xs
def BP.J{q w w' a xs}(h:BP q w a xs)(b:Bw w w'):BP q w' a xs:=Bq.J h (λ_ _ _ h=>h) b
def BP.low{B w w' a xs}(h:BP (some B) w a xs)(b:Du B w w'):BP (some B) w' a xs:=Bq.low h (λ_ _ _ h=>h) b
def BP.ax{B O}(b:O<=B){w a xs}(h:BP (some B) w a xs):BP (some O) w a xs:=Bq.aK h (λ_=>Qb.ax b) (λ_ _ _ h=>h)
def BP.bare{q w a xs}(h:BP q w a xs):BP none w a xs:=Bq.aK h (λb _=>Qb.bare _ _ b) (λ_ _ _ h=>h)
def BP.get{q w a xs i x}(h:BP q w a xs)(g:xs[i]?=some x):∃b o,a=some ⟨b,o,none⟩/\Qb q w 225 b/\At w b (o+i*8) (I6 x.kind)/\At w b (o+i*8+1) (.int .u8 x.op)/\At w b (o+i*8+2) (.string x.var)/\At w b (o+i*8+3) (I6 x.val.kind)/\At w b (o+i*8+4) (I6 x.val.num)/\At w b (o+i*8+5) (.string x.val.av)/\At w b (o+i*8+6) (I6 x.a)/\At w b (o+i*8+7) (I6 x.b):=by
 obtain⟨b,o,r,f,d,j,c,e⟩:=h i x g;subst e;exact⟨b,o,f,d,c 0 _ rfl,c 1 _ rfl,c 2 _ rfl,c 3 _ rfl,c 4 _ rfl,c 5 _ rfl,c 6 _ rfl,c 7 _ rfl⟩
def Ex.sz(x:Ex):Nat:=x.var.size+IZ x.val
def Ex.le(N:Nat)(x:Ex):Prop:=x.var.size<=N/\x.val.av.size<=N
def Ex.be(N)(x:Ex)(h:x.sz<=N):x.le N:=by
 unfold Ex.sz at h;exact⟨qd,by unfold IZ at h;omega⟩
structure Ac where
 kind:Int
 k:Int
 ak:ByteArray
 args:List Int
def Ac.R(q:Option Nat)(w:World)(r:List Value)(x:Ac):Prop:=∃a_args c_args,r=[.int .i64 x.kind,.int .i64 x.k,.string x.ak,.slice a_args x.args.length c_args]/\Bf q w a_args x.args
abbrev C9(q:Option Nat)(w:World)(a:Option Addr)(xs:List Ac):Prop:=Bq (Ac.R q) q 227 4 w a xs
def C9.J{q w w' a xs}(h:C9 q w a xs)(f:Bw w w'):C9 q w' a xs:=Bq.J h (λ_ _ _⟨c,b,e,d⟩=>⟨c,b,e,d.J f⟩) f
def C9.low{B w w' a xs}(h:C9 (some B) w a xs)(f:Du B w w'):C9 (some B) w' a xs:=Bq.low h (λ_ _ _⟨c,b,e,d⟩=>⟨c,b,e,d.low f⟩) f
def C9.ax{B O}(f:O<=B){w a xs}(h:C9 (some B) w a xs):C9 (some O) w a xs:=Bq.aK h (λ_=>Qb.ax f) (λ_ _ _⟨c,b,e,d⟩=>⟨c,b,e,d.ax f⟩)
def C9.bare{q w a xs}(h:C9 q w a xs):C9 none w a xs:=Bq.aK h (λb _=>Qb.bare _ _ b) (λ_ _ _⟨d,c,e,f⟩=>⟨d,c,e,f.bare⟩)
def C9.get{q w a xs i x}(h:C9 q w a xs)(g:xs[i]?=some x):∃b o c d,a=some ⟨b,o,none⟩/\Qb q w 227 b/\At w b (o+i*4) (I6 x.kind)/\At w b (o+i*4+1) (I6 x.k)/\At w b (o+i*4+2) (.string x.ak)/\At w b (o+i*4+3) (.slice c x.args.length d)/\Bf q w c x.args:=by
 obtain⟨b,o,r,m,j,n,f,l⟩:=h i x g;obtain⟨c,d,rfl,e⟩:=l;exact⟨b,o,c,d,m,j,f 0 _ rfl,f 1 _ rfl,f 2 _ rfl,f 3 _ rfl,e⟩
def Ac.sz(x:Ac):Nat:=x.ak.size+x.args.length
def Ac.le(N:Nat)(x:Ac):Prop:=x.ak.size<=N/\x.args.length<=N
def Ac.be(N)(x:Ac)(h:x.sz<=N):x.le N:=by
 unfold Ac.sz at h;exact⟨qd,qd⟩
structure Ru where
 name:ByteArray
 aH:Int
 af:List Pt
 exprs:List Ex
 ao:List Ac
def Ru.R(q:Option Nat)(w:World)(r:List Value)(x:Ru):Prop:=∃a_pats c_pats a_exprs c_exprs a_acts c_acts,r=[.string x.name,.int .i64 x.aH,.slice a_pats x.af.length c_pats,.slice a_exprs x.exprs.length c_exprs,.slice a_acts x.ao.length c_acts]/\CH q w a_pats x.af/\BP q w a_exprs x.exprs/\C9 q w a_acts x.ao/\x.exprs.length<=c_exprs
abbrev Do(q:Option Nat)(w:World)(a:Option Addr)(xs:List Ru):Prop:=Bq (Ru.R q) q 53 5 w a xs
def Do.J{q w w' a xs}(h:Do q w a xs)(k:Bw w w'):Do q w' a xs:=Bq.J h (λ_ _ _⟨i,f,d,b,g,j,e,Y,c,l,O⟩=>⟨i,f,d,b,g,j,e,Y.J k,c.J k,l.J k,O⟩) k
def Do.bare{q w a xs}(h:Do q w a xs):Do none w a xs:=Bq.aK h (λb _=>Qb.bare _ _ b) (λ_ _ _⟨j,g,f,c,i,k,e,Y,d,l,O⟩=>⟨j,g,f,c,i,k,e,Y.bare,d.bare,l.bare,O⟩)
def Do.get{q w a xs i x}(h:Do q w a xs)(m:xs[i]?=some x):∃b o f g c d e j,a=some ⟨b,o,none⟩/\Qb q w 53 b/\At w b (o+i*5) (.string x.name)/\At w b (o+i*5+1) (I6 x.aH)/\At w b (o+i*5+2) (.slice f x.af.length g)/\At w b (o+i*5+3) (.slice c x.exprs.length d)/\At w b (o+i*5+4) (.slice e x.ao.length j)/\CH q w f x.af/\BP q w c x.exprs/\C9 q w e x.ao/\x.exprs.length<=d:=by
 obtain⟨b,o,r,t,n,u,l,s⟩:=h i x m;obtain⟨f,g,c,d,e,j,rfl,Y,k,p,O⟩:=s;exact⟨b,o,f,g,c,d,e,j,t,n,l 0 _ rfl,l 1 _ rfl,l 2 _ rfl,l 3 _ rfl,l 4 _ rfl,Y,k,p,O⟩
def Ru.sz(x:Ru):Nat:=x.name.size+EY Pt.sz x.af+EY Ex.sz x.exprs+EY Ac.sz x.ao
def Ru.le(N:Nat)(x:Ru):Prop:=x.name.size<=N/\CP Pt.le N x.af/\CP Ex.le N x.exprs/\CP Ac.le N x.ao
def Ru.be(N)(x:Ru)(h:x.sz<=N):x.le N:=by
 unfold Ru.sz at h;exact⟨qd,Pk Pt.be qd,Pk Ex.be qd,Pk Ac.be qd⟩
def BT(s:ByteArray):Bool:=s.toList.isEmpty
def Cr(v:V):Bool:=v.kind==0&&(v.num==0&&BT v.av)
def OD(t:Tm):Bool:=(BT t.var&&Bu t.val)||(Aw t.var.data.toList&&Cr t.val)
def Dt(t:Tm):Bool:=
 if t.kind==0 then t.op==0&&(BT t.var&&Cr t.val)
 else if t.kind==1 then t.op==0&&(BT t.var&&Bu t.val)
 else if t.kind==2 then t.op==0&&(Aw t.var.data.toList&&Cr t.val)
 else if t.kind==3 then decide (1<=t.op)&&(decide (t.op<=6)&&OD t)
 else false
def QM:ByteArray:=⟨#[110,111,116]⟩
def DN(s:ByteArray):Bool:=Aw s.data.toList&&!(decide (s=QM))
def Dc(p:Pt):Bool:=DN p.ak&&(decide (p.aa.length<=6)&&p.aa.all Dt)
def Di{α:Type}(f:α->Bool):List α->Nat->Option Nat
 |[],_=>none
 |x::r,k=>if f x then Di f r (k+1) else some k
abbrev Sp:=Nat × Nat
def DY(op:Int):Bool:=op==43||(op==45||(op==42||(op==47||op==37)))
def CQ(e:Ex):Bool:=e.op==0&&(e.a==0&&e.b==0)
def Ia(S:List Sp)(a b:Int):Option Sp:=
 match S[b.toNat]?,S[a.toNat]? with
 |some sb,some sa=>if decide (a=(sb.1:Int)-1)&&decide (1+max sa.2 sb.2<=20) then some (sa.1,1+max sa.2 sb.2) else none
 |_,_=>none
def CN(S:List Sp)(e:Ex):Bool:=DY e.op&&(BT e.var&&(Cr e.val&&(decide (e.b=(S.length:Int)-1)&&(decide (0<=e.b)&&decide (0<=e.a)))))
def Bv(S:List Sp)(e:Ex):Option Sp:=
 if e.kind==0 then(if CQ e&&(BT e.var&&Bu e.val) then some (S.length,0) else none)
 else if e.kind==1 then(if CQ e&&(Aw e.var.data.toList&&Cr e.val) then some (S.length,0) else none)
 else if e.kind==2 then(if CN S e then Ia S e.a e.b else none)
 else none
def B_:List Sp->List Ex->List Sp
 |S,[]=>S
 |S,e::r=>match Bv S e with
  |none=>S
  |some s=>B_ (S++[s]) r
def DH(S:List Sp):List Int->Nat->Option Nat
 |[],nx=>some nx
 |x::r,nx=>if decide (0<=x)&&(decide (x<(S.length:Int))&&decide ((S[x.toNat]?.getD (0,0)).1=nx)) then DH S r (x.toNat+1) else none
def OY(k:Int):Bool:=decide (-1000000<=k)&&decide (k<=1000000)
def EW(a:Ac):Bool:=
 if a.kind==1 then DN a.ak&&a.k==0
 else if a.kind==2 then(BT a.ak&&OY a.k)&&a.args.isEmpty
 else if a.kind==3 then BT a.ak&&OY a.k
 else if a.kind==4 then BT a.ak&&(a.k==0&&a.args.isEmpty)
 else false
def BW(S:List Sp)(a:Ac)(nx:Nat):Option Nat:=if EW a&&decide (a.args.length<=6) then DH S a.args nx else none
def G8(S:List Sp):List Ac->Nat->Nat->Option Nat
 |[],nx,k=>if nx=S.length then none else some k
 |a::r,nx,k=>match BW S a nx with
  |none=>some k
  |some nx'=>G8 S r nx' (k+1)
def IQ(r:Ru):Bool:=Aw r.name.data.toList&&(decide (r.af.length<=6)&&(decide (r.ao.length<=8)&&decide (r.exprs.length<=60)))
def An(r:Ru):Option Nat:=
 if IQ r then
  match Di Dc r.af 1 with
  |some i=>some i
  |none=>if(B_ [] r.exprs).length<r.exprs.length then some ((B_ [] r.exprs).length+1) else G8 (B_ [] r.exprs) r.ao 0 1
 else some 0
def GE(p:Pt):Bool:=!p.neg
def Ad(ps:List Pt):Nat:=ps.countP GE
def BI(s:ByteArray)(l:List ByteArray):Bool:=l.any λx=>decide (x=s)
def Fe(t:Tm):Bool:=t.kind==3&&!BT t.var
def CL:List Tm->List ByteArray->Option (List ByteArray)
 |[],here=>some here
 |t::r,here=>if Fe t&&!BI t.var here then none else CL r (if t.kind==2 then here++[t.var] else here)
def ET:List Pt->List ByteArray->Nat->Nat ⊕ List ByteArray
 |[],known,_=>.inr known
 |p::r,known,k=>match CL p.aa known with
  |none=>.inl k
  |some here=>ET r (if p.neg then known else here) (k+1)
def Es(known:List ByteArray)(e:Ex):Bool:=!(e.kind==1)||BI e.var known
def Jn(a:Ac):Nat:=match a.args.getLast? with|none=>0|some l=>l.toNat+1
def FW(es:List Ex)(known:List ByteArray)(a:Ac):Bool:=a.args.isEmpty||(es.take (Jn a)).all (Es known)
def A7(r:Ru):Option Nat:=
 match ET r.af [] 1 with
 |.inl i=>some i
 |.inr known=>Di (FW r.exprs known) r.ao (r.af.length+1)
def Fa(most:Nat)(a:Ac):Bool:=!((a.kind==2||a.kind==3)&&!(decide (1<=a.k)&&decide (a.k<=(most:Int))))
def Cw(r:Ru):Option Nat:=Di (Fa (Ad r.af)) r.ao (r.af.length+1)
def Br(pre:List Ru)(r:Ru):Int × Int:=
 match An r with
 |some i=>(1,i)
 | none=>if pre.any (λo=>decide (o.name=r.name)) then (2,0)
  else if 1<=Ad r.af/\Ad r.af<=3 then
   match A7 r with
   |some i=>(4,i)
   |none=>match Cw r with
    |some i=>(5,i)
    |none=>(0,0)
  else(3,0)
def FT:List Ru->List Ru->Nat->Int × Int × Int
 |_,[],_=>(0,0,0)
 |pre,r::s,k=>if(Br pre r).1=0 then FT (pre++[r]) s (k+1) else((Br pre r).1,k,(Br pre r).2)
def Bh(rs:List Ru):Int × Int × Int:=if rs.length<=16 then FT [] rs 0 else(1,0,0)
def AY(es:List Ex)(S:List Sp):Prop:=S.length<=es.length/\∀(i:Nat)(s:Sp)(e:Ex),S[i]?=some s->es[i]?=some e->Bv (S.take i) e=some s
def AY.nil(es):AY es []:=⟨yA _,λi s e h=>by simp at h⟩
def AY.snoc{es S e s}(h:AY es S)(c:es[S.length]?=some e)(f:Bv S e=some s):AY es (S++[s]):=by
 refine⟨by have:=(yf.1 c).1;simp;omega,λi d g a O=>?_⟩;by_cases b:i<S.length
 .rw[yB b]at a;rw[KO qd];exact h.2 i d g a O
 have Y:i<(S++[s]).length:=(yf.1 a).1;simp at Y;obtain rfl:i=S.length:=qd;simp at a;subst a;rw[c]at O;injection O with O;subst O;rw[KO AA,yW];exact f
def S3{es}:∀{l:List Ex}{S:List Sp},AY es S->es.drop S.length=l->AY es (B_ S l)/\S.length<=(B_ S l).length
 |[],S,h,_=>⟨h,yX _⟩
 |e::r,S,h,hd=>by
  have a:es[S.length]?=some e:=by
   have:=WA (xs:=es) (i:=S.length) (j:=0);rw[hd]at this;simpa using this.ai
  unfold B_;split
  .exact⟨h,yX _⟩
  rename_i s b;have O:es.drop (S++[s]).length=r:=by
   rw[yR,<-List.drop_drop,hd];rfl
  have:=S3 (h.snoc a b) O;exact⟨this.1,by have:=this.2;simp at this;omega⟩
def AY.op{es S}(h:AY es S){i}{s:Sp}{e}(l:S[i]?=some s)(m:es[i]?=some e)(n:e.kind=2) :
  ∃(a b:Nat)(sa sb:Sp),e.a=(a:Int)/\e.b=(b:Int)/\b+1=i/\a<b+1/\S[a]?=some sa/\S[b]?=some sb/\s=(sa.1,1+max sa.2 sb.2):=by
 have:=h.2 i s e l m;unfold Bv at this;simp only[n]at this;rw[if_neg qh,if_neg qh,if_pos qh]at this;split at this
 .rename_i k;simp only[CN,yk,decide_eq_true_eq]at k;obtain⟨_,_,_,o,j,Y⟩:=k;have p:i<S.length:=(yf.1 l).1;have c:(S.take i).length=i:=by simp;omega
  rw[c]at o;obtain⟨b,d⟩:=Ym j;obtain⟨a,O⟩:=Ym Y;unfold Ia at this;rw[d,O]at this;simp only[YK]at this;split at this
  .rename_i sb sa g f;rw[YU]at g f;split at g
   .split at f
    .split at this
     .injection this with this;exact⟨a,b,sa,sb,O,d,qd,qd,f,g,this.ai⟩
     cases this
    .cases f
   cases g
  .cases this
 cases this
def AY.leaf{es S}(h:AY es S){i}{s:Sp}{e}(b:S[i]?=some s)(c:es[i]?=some e)(hk:e.kind≠2):s=(i,0):=by
 have:=h.2 i s e b c;have Y:i<S.length:=(yf.1 b).1;have a:(S.take i).length=i:=by simp;omega
 unfold Bv at this;have O:(e.kind==2)=false:=QD;rw[O,a]at this;split at this
 .split at this
  .exact Tf
  cases this
 split at this
 .split at this
  .exact Tf
  cases this
 simp at this
def AY.aZ{es S}(h:AY es S)(i:Nat)(s)(a:S[i]?=some s):s.2<=20:=by
 have O:i<S.length:=(yf.1 a).1;have Y:=h.1;obtain⟨e,c⟩:∃e,es[i]?=some e:=⟨es[i]'(by omega),qe⟩
 by_cases d:e.kind=2
 .have:=h.2 i s e a c;unfold Bv at this;simp only[d]at this;rw[if_neg qh,if_neg qh,if_pos qh]at this;split at this
  .unfold Ia at this;split at this
   .split at this
    .rename_i b;injection this with this;simp only[yk,decide_eq_true_eq]at b;rw[<-this];exact b.2
    cases this
   .cases this
  cases this
 rw[h.leaf a c d];exact yA _
def AY.bn{es S}(h:AY es S):∀(i:Nat)(s:Sp),S[i]?=some s->s.1<=i:=by
 intro i
 induction i using Nat.strongRecOn with
 |_ i Y=>
  intro s c;have O:i<S.length:=(yf.1 c).1;have l:=h.1;obtain⟨e,d⟩:∃e,es[i]?=some e:=⟨es[i]'(by omega),qe⟩
  by_cases f:e.kind=2
  .obtain⟨a,b,sa,sb,_,_,m,j,g,k,rfl⟩:=h.op c d f;have:=Y a qd sa g;simp;omega
  rw[h.leaf c d f];exact yX _
def Xg(c w) :
  Ca 246 #[.int .u8 c] w λe w'=>e=.returned (.bool (Ga c))/\w'=w:=by
 go_enter func246,ntmps246;go_wp2
 all_goals (go_ret;exact⟨by simp[Ga];omega,rfl⟩)
def znj(c w) :
  Ca 247 #[.int .u8 c] w λe w'=>e=.returned (.bool (Mm c))/\w'=w:=by
 go_enter func247,ntmps247;go_wp2
 all_goals (go_ret;exact⟨by simp[Mm];omega,rfl⟩)
def S9(s:ByteArray):s.data.toList.length=s.size:=by
 obtain⟨⟨l⟩⟩:=s;rfl
def U6(s:ByteArray)(h:0<s.size):s.data.toList.headD 0=s[0]:=by
 obtain⟨⟨l⟩⟩:=s;cases l with
 |nil=>exact absurd h (KH 0)
 |cons a l=>rfl
def gg(s:ByteArray)(k)(h:k<s.size):s.data.toList[k]'(by rw[S9];exact h)=s[k]:=by
 obtain⟨⟨l⟩⟩:=s;rfl
def jT{s:ByteArray}{k}(a:k<s.size)(h:I_ (s[k].toNat:Int)=false):Aw s.data.toList=false:=
 ul (k:=k) (by rw[S9];exact a) (by rw[gg s k a];exact h)
def Xk{s:ByteArray}{k}(a:k<s.size)(h:(s.data.toList.take k).all Hs=true)(b:I_ (s[k].toNat:Int)=true):(s.data.toList.take (k+1)).all Hs=true:=
 zjK (by rw[S9];exact a) h (by rw[gg s k a];exact b)
def zi2{s:ByteArray}{k}(a:0<s.size)(d:s.size<=20)(b:Ga (s[0].toNat:Int)=true)(e:s.size<=k)(c:(s.data.toList.take k).all Hs=true):Aw s.data.toList=true:=by
 refine zn Nz Nz (by rw[U6 s a];exact b) ?_;rwa [yu Nz]at c
def rT(c):I_ c=(Ga c||Mm c||!(c != 45)):=by
 unfold I_;congr 1;by_cases h:c=45<;>simp[h]
def rJ{c}(h:(97<=c/\c<=122)∨(48<=c/\c<=57)∨(44<c/\c<46)):I_ c=true:=by
 simp[I_,Ga,Mm];omega
def sX{c}(h:¬((97<=c/\c<=122)∨(48<=c/\c<=57)∨(44<c/\c<46))):I_ c=false:=by
 simp[I_,Ga,Mm];omega
def AE{a b}(h:a=b):Ending.returned (.bool a)=.returned (.bool b):=by rw[h]
def mi{P:Prop}(h:P:=by go_wp2;go_ret;exact⟨AE (zi2 hp (by omega) H2.o (by omega) HA.o).ai,rfl⟩):P:=h
def Qs{P:Prop}(h:P:=by go_ret;exact⟨AE G.o.ai,rfl⟩):P:=h
def IX(s w)(j:s.size<=maxLen) :
  Ca 197 #[.string s] w λe w'=>e=.returned (.bool (Aw s.data.toList))/\w'=w:=by
 unfold maxLen at j;by_cases m:s.size<1
 .have G:Hid (Aw s.data.toList=false):=SD (s:=s.data.toList) Nz;have g:(s.size:Int)<1:=qd;go_enter func197,ntmps197;go_wp2;exact Qs
 by_cases r:20<s.size
 .have G:Hid (Aw s.data.toList=false):=ja (s:=s.data.toList) Nz;have g:(20:Int)<s.size:=qd;go_enter func197,ntmps197;go_wp2;exact Qs
 have hp:0<s.size:=qd;have l:decide ((s.size:Int)<1)=false:=by simp;omega
 have p:decide ((20:Int)<s.size)=false:=by simp;omega
 by_cases h2:Ga (s[0].toNat:Int)=true
 .have H2:Hid (Ga (s[0].toNat:Int)=true):=h2;go_enter func197,ntmps197;go_wp2_with (go_at_call 246;refine(Xg _ _).ac ?_;rintro e w' ⟨rfl,rfl⟩);clear h2
  go_loop [3] (λi=>∃k:Nat,1<=k/\k<=s.size/\i=I6 k/\(s.data.toList.take k).all Hs=true) (λi=>s.size-(intOf i).toNat)
  case atStart=>exact⟨1,qd,qd,rfl,Xk (k:=0) hp qe (wg H2.o)⟩
  case round=>
   obtain⟨k,q,n,rfl,O⟩:=hrel;have HA:Hid ((s.data.toList.take k).all Hs=true):=O;clear O;by_cases a:k<s.size
   .obtain⟨f⟩:Nonempty (Hid (I_ (s[k].toNat:Int)=(Ga (s[k].toNat:Int)||Mm (s[k].toNat:Int)||!((s[k].toNat:Int) != 45)))):=⟨rT _⟩
    cases b:Ga (s[k].toNat:Int)<;>cases c:Mm (s[k].toNat:Int)<;>cases d:((s[k].toNat:Int) != 45)
    all_goals
     go_wp2_with (first|(go_at_call 246;refine(Xg _ _).ac ?_;rintro e w' ⟨rfl,rfl⟩)|(go_at_call 247;refine(znj _ _).ac ?_;rintro e w' ⟨rfl,rfl⟩))
     first
     | (go_round
        case rel=>exact⟨k+1,qd,qd,ql,Xk a HA.o (by rw[f.o,b,c,d];rfl)⟩
        case measure=>simp[intOf];omega)
     | (go_ret
        exact⟨AE (jT a (by rw[f.o,b,c,d];rfl)).ai,rfl⟩)
   exact mi
 have Y:Ga (s[0].toNat:Int)=false:=qv;have G:Hid (Aw s.data.toList=false):=j4 (by rw[U6 s hp];exact Y);clear h2;go_enter func197,ntmps197;go_wp2_with (go_at_call 246;refine(Xg _ _).ac ?_;rintro e w' ⟨rfl,rfl⟩);exact Qs
def Hg(s w)(l:s.size<=maxLen) :
  Ca 116 #[.string s] w λe w'=>e=.returned (.bool (Aw s.data.toList))/\w'=w:=by
 unfold maxLen at l;by_cases t:s.size<1
 .have G:Hid (Aw s.data.toList=false):=SD (s:=s.data.toList) Nz;have f:(s.size:Int)<1:=qd;go_enter func116,ntmps116;go_wp2;exact Qs
 by_cases u:20<s.size
 .have G:Hid (Aw s.data.toList=false):=ja (s:=s.data.toList) Nz;have f:(20:Int)<s.size:=qd;go_enter func116,ntmps116;go_wp2;exact Qs
 have hp:0<s.size:=qd;have r:decide ((s.size:Int)<1)=false:=by simp;omega
 have x:decide ((20:Int)<s.size)=false:=by simp;omega
 by_cases h2:Ga (s[0].toNat:Int)=true
 .have H2:Hid (Ga (s[0].toNat:Int)=true):=h2;simp only[Ga,yk,decide_eq_true_eq]at h2;obtain⟨m,ai⟩:=h2;have p:decide ((s[0].toNat:Int)<97)=false:=by simp;omega
  have q:decide ((122:Int)<(s[0].toNat:Int))=false:=by simp;omega
  go_enter func116,ntmps116;go_wp2;clear m ai p q
  go_loop [3] (λi=>∃k:Nat,k<=s.size/\i=I6 k/\(s.data.toList.take k).all Hs=true) (λi=>s.size-(intOf i).toNat)
  case atStart=>exact⟨0,qd,rfl,qe⟩
  case round=>
   obtain⟨k,v,rfl,Y⟩:=hrel;have HA:Hid ((s.data.toList.take k).all Hs=true):=Y;clear Y;by_cases b:k<s.size
   .rcases(show(s[k].toNat:Int)<45∨(44<(s[k].toNat:Int)/\(s[k].toNat:Int)<46)∨(45<(s[k].toNat:Int)/\(s[k].toNat:Int)<48)∨(48<=(s[k].toNat:Int)/\(s[k].toNat:Int)<=57)∨(57<(s[k].toNat:Int)/\(s[k].toNat:Int)<97)∨(97<=(s[k].toNat:Int)/\(s[k].toNat:Int)<=122)∨122<(s[k].toNat:Int) from by omega) with a|⟨a,O⟩|⟨a,O⟩|⟨a,O⟩|⟨a,O⟩|⟨a,O⟩|a
    all_goals
     first
     |have j:((s[k].toNat:Int)==45)=false:=qg
     |have j:((s[k].toNat:Int)==45)=true:=qg
     first
     |have n:decide ((s[k].toNat:Int)<=57)=false:=qg
     |have n:decide ((s[k].toNat:Int)<=57)=true:=qg
     first
     |have g:decide ((s[k].toNat:Int)<=122)=false:=qg
     |have g:decide ((s[k].toNat:Int)<=122)=true:=qg
     go_wp2
     first
     | (go_round
        case rel=>exact⟨k+1,qd,ql,Xk b HA.o (rJ qd)⟩
        case measure=>simp[intOf];omega)
     | (go_ret
        exact⟨AE (jT b (sX qd)).ai,rfl⟩)
   exact mi
 have d:Ga (s[0].toNat:Int)=false:=qv;have G:Hid (Aw s.data.toList=false):=j4 (by rw[U6 s hp];exact d);clear h2;have c:(s[0].toNat:Int)<97∨(97<=(s[0].toNat:Int)/\122<(s[0].toNat:Int)):=by
  simp only[Ga,WV,decide_eq_false_iff_not]at d;omega
 rcases c with c|⟨c,y⟩
 all_goals
  clear d;go_enter func116,ntmps116;go_wp2;go_ret;exact⟨AE G.o.ai,rfl⟩
section
attribute [local go_sem ↓] wp_at_zero wp_at_succ
def S0(v w)(b:v.av.size<=maxLen) :
  Ca 176 #[.agg #[I6 v.kind,I6 v.num,.string v.av]] w λe w'=>
   e=.returned (.bool (Bu v))/\Bw w w':=by
 obtain⟨G⟩:Nonempty (Hid (Bu v=((v.kind==0&&v.av.toList.isEmpty)||(v.kind==1&&(v.num==0&&Aw v.av.data.toList))))):=⟨rfl⟩
 have a:=Hg v.av (w.alloc (.cells #[I6 v.kind,I6 v.num,.string v.av] 187)) b;cases g:(v.kind==0)<;>cases d:v.av.toList.isEmpty<;>cases c:(v.kind==1)<;>cases f:(v.num==0)
 all_goals
  go_enter func176,ntmps176;go_wp2_with (go_at_call 116;refine a.ac ?_;rintro e w' ⟨rfl,rfl⟩)
 all_goals try go_ret
 all_goals exact⟨AE (by rw[G.o,g,d,c,f];simp),Af⟩
def EV{a b:ByteArray}:(a.toList==b.toList)=decide (a=b):=by
 rw[<-beq_toListBytes];by_cases h:a=b
 .subst h;rw[beq_toListBytes];simp
 rw[decide_eq_false h,beq_toListBytes];simp only[beq_eq_false_iff_ne,ne_eq,Kg];intro e;exact h (Go.WideShapes.bytes_inj e)
def veq{v u:V}(h1:(v.kind==u.kind)=true)(h2:(v.num==u.num)=true)(h3:(v.av.toList==u.av.toList)=true):v=u:=by
 rw[EV]at h3;exact V.same qt qv Nt
def se{v u:V}{l l'}(h:v=u):decide (v::l=u::l')=decide (l=l'):=by
 subst h;by_cases e:l=l'<;>simp[e]
def ti{v u:V}{l l'}(h:v≠u):decide (v::l=u::l')=false:=by
 simp[h]
end
def Pe(f:F):Bool:=decide (1<=f.tag)&&(decide (f.tag<=1000000)&&(Aw f.ak.data.toList&&C4 f.ad))
def lE{f x}(h:1<=f.tag)(e:Pe f=x):(decide (f.tag<=1000000)&&(Aw f.ak.data.toList&&C4 f.ad))=x:=by
 unfold Pe at e;rwa [decide_eq_true h,YP]at e
def ST(v w)(d:v.av.size<=maxLen) :
  Ca 256 #[.agg #[I6 v.kind,I6 v.num,.string v.av]] w λe w'=>
   e=.returned (.bool (Bu v))/\Bw w w':=by
 obtain⟨G⟩:Nonempty (Hid (Bu v=((v.kind==0&&v.av.toList.isEmpty)||(v.kind==1&&(v.num==0&&Aw v.av.data.toList))))):=⟨rfl⟩
 have c:=IX v.av (w.alloc (.cells #[I6 v.kind,I6 v.num,.string v.av] 187)) d;have f:Hid ((v.kind==0)=true->(v.kind==1)=false):=λh=>by simp at h;simp[h]
 cases b:(v.kind==0)<;>cases g:v.av.toList.isEmpty<;>cases a:(v.kind==1)<;>cases i:(v.num==0)
 all_goals
  first
  |(exfalso;have:=f.o b;rw[a]at this;cases this;done)
  | (go_enter func256,ntmps256
     go_wp2_with (go_at_call 197;refine c.ac ?_;rintro e w' ⟨rfl,rfl⟩);go_ret;exact⟨AE (by rw[G.o,b,g,a,i];simp),Af⟩)
end Go.Proofs.YtikojfajahnhgaaGreat
