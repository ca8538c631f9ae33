import Derived.Test.YtikojfajahnhgaaGreatQz
set_option linter.all false
set_option maxHeartbeats 800000
set_option maxRecDepth 100000
namespace Go
open Go.RowKit in
def iV(w:World):∀o,Below w.heap.size w (w.alloc o):=λo=>(Below.refl _ _).alloc (Nat.le_refl _) o
open Go.RowKit in
def Fx(w:World):Hid (∀o,Below w.heap.size w (w.alloc o)):=iV w
def Calls.rtn{P:Program}{f:FuncId}{args:Array Value}{w:World}{v:Value}{Q:World->Prop}{R:Ending->World->Prop}(h:Calls P f args w λe w'=>e=.returned v/\Q w')(k:∀w',Q w'->R (.returned v) w'):Calls P f args w R:=h.j λ_ _⟨e,q⟩=>e▸k _ q
end Go
namespace Go.RowKit
def Below.thn{w u v:World}(h:Below w.heap.size w u)(k:Below u.heap.size u v):Below w.heap.size w v:=h.c (k.j h.size)
end Go.RowKit
namespace Go.Proofs.YtikojfajahnhgaaGreat
open Go.RowKit Go.Proofs.Tryz
attribute [local go_sem ↓] wp_at_zero wp_at_succ
variable{P:Prop}
abbrev Bw(w w':Aa):Prop:=Below w.heap.size w w'
abbrev At(w:Aa)(b o:Nat)(v:Value):Prop:=w.cell? ⟨b,o,none⟩=some v
abbrev Bk(w:Aa)(b:Nat)(c:Bl)(t:TypeId):Prop:=w.heap[b]?=some (.cells c t (0,0))
abbrev I6(n:Int):Value:=.int .i64 n
abbrev Pn(b:Nat):Value:=.pointer (some ⟨b,0,none⟩)
def Au{B w}:Below B w w:=y8 B w
def Bg{n:Nat}:n<=n:=yA n
def Ar{w:Aa}{o}:Below w.heap.size w (w.alloc o):=(y8 _ _).alloc (yA _) _
def Br{w:Aa}{o o'}:Below w.heap.size w ((w.alloc o).alloc o'):=Ar.alloc qf _
def Cq{w:Aa}{o o' p}:Below w.heap.size w (((w.alloc o).alloc o').alloc p):=Br.alloc qe _
def Gp{w:Aa}(o):Below w.heap.size w (w.alloc o):=Ar
def NP{w:Aa}(o o'):Below w.heap.size w ((w.alloc o).alloc o'):=Br
def AF{α:Type}(x:α):∃y,y=x:=⟨x,rfl⟩
def CZ{k n:Nat}(h:k<n):(0:Int)<=(k:Int)/\(k:Int)<(n:Int):=qd
def Hk{k n:Nat}(h:k<n):(k:Int)<(n:Int):=qd
def FN{k n:Nat}(h:¬k<n):¬(k:Int)<(n:Int):=qd
def Bq{α:Type}{l:List α}{k:Nat}(h:k<l.length):∃x,l[k]?=some x:=⟨l[k],by simp[h]⟩
def mz(n:Nat)(i:Value)(_w:Aa):Nat:=n-(intOf i).toNat
def mzI(n:Nat)(k:Int)(w:Aa):mz n (.int .i64 k) w=n-k.toNat:=rfl
attribute [local simp] At I6 Pn mzI Bk
attribute [local go_sem] At I6 Pn Bk
def GX(c:Int):Bool:=decide (97<=c)&&decide (c<=122)
def NH(c:Int):Bool:=decide (48<=c)&&decide (c<=57)
def JM(c:Int):Bool:=GX c||NH c||decide (c=45)
def Pd(c:UInt8):Bool:=GX (c.toNat:Int)
def Hl(c:UInt8):Bool:=JM (c.toNat:Int)
def AP(s:List UInt8):Bool:=decide (1<=s.length)&&decide (s.length<=20)&&Pd (s.headD 0)&&s.all Hl
def zpr{c}(h:GX c=true):JM c=true:=by simp[JM,h]
def VD{s}(h:s.length=0):AP s=false:=by simp[AP,h]
def oV{s}(h:20<s.length):AP s=false:=by simp[AP];omega
def oZ{s}(h:Pd (s.headD 0)=false):AP s=false:=by grind[Pd,Hl,AP]
theorem ztv{s k}(a:k<s.length)(h:Hl s[k]=false):AP s=false:=by grind[Pd,Hl,AP]
theorem zrz{s}(b:1<=s.length)(c:s.length<=20)(a:Pd (s.headD 0)=true)(d:s.all Hl=true):AP s=true:=by grind[Pd,Hl,AP]
theorem zj8{s:List UInt8}{k}(a:k<s.length)(h:(s.take k).all Hl=true)(b:Hl s[k]=true):(s.take (k+1)).all Hl=true:=by
 rw[Kh a,iZ,h];simp[b]
def OA{α:Type}(l:List α)(k x)(h:l[k]?=some x):l.take (k+1)=l.take k++[x]:=by
 obtain⟨a,rfl⟩:=yf.1 h;simp_all
def zkh{α β:Type}(f:α->β)(l:List α)(k x)(h:l[k]?=some x):(l.take (k+1)).map f=(l.take k).map f++[f x]:=by
 obtain⟨a,rfl⟩:=yf.1 h;rw[Kh a,yz];rfl
def Dx{α:Type}{l:List α}{k x}(h:l[k]?=some x):l.drop k=x::l.drop (k+1):=by grind[List.getElem?_eq_some_iff,List.drop_eq_getElem_cons]
def Ap{w:Aa}{g o}(h:w.heap[g]?=some o):g<w.heap.size:=(yk.1 h).1
def C7{w:Aa}{g i c t a}(h:w.heap[g]?=some (.cells c t a))(x) :
  (w.setCell ⟨g,i,none⟩ x).heap[g]?=some (.cells (c.setIfInBounds i x) t a):=by
 simp[World.setCell,YT,h]
def iN:∀(vs:Aj)(o:Nat)(w:Aa)(g:Nat)(c:Bl)(t:TypeId)(b:Nat × Nat),w.heap[g]?=some (.cells c t b) ->
  ∃a,(w.setCells g o vs).heap[g]?=some (.cells a t b)/\a.size=c.size/\(∀j x,vs[j]?=some x->o+j<c.size->a[o+j]?=some x)/\(∀i,i<o∨o+vs.length<=i->a[i]?=c[i]?)
 |[],o,w,g,c,t,b,h=>⟨c,h,rfl,λj x hj=>by simp at hj,λ_ _=>rfl⟩
 |v::r,o,w,g,c,t,b,h=>by
  obtain⟨a,f,l,k,e⟩:=iN r (o+1) _ g _ t b (C7 (i:=o) h v)
  refine⟨a,f,by rw[l];simp,?_,?_⟩
  .intro j x hj hlt
   cases j with
   |zero=>
    simp at hj
    subst hj
    rw[Nat.add_zero,e o (Or.inl (i8 o)),KJ]
    simp at hlt
    simp[hlt]
   |succ j=>
    have:=k j x TW qe
    rwa [show o+1+j=o+(j+1) by omega]at this
  intro i d
  rw[e i (by simp at d;omega),KJ,if_neg (by simp at d;omega)]
def Below.setCells{B a}:∀(vs:Aj)(o:Nat)(w:Aa)(g:Nat),Below B a w->B<=g->Below B a (w.setCells g o vs)
 |[],_,_,_,h,_=>h
 |v::r,o,_,g,h,hg=>Below.setCells r (o+1) _ g (h.setCell (p:=⟨g,o,none⟩) hg v) hg
def AU{W a}(c:Bw W a):(∀b o,b<W.heap.size->a.cell? ⟨b,o,none⟩=W.cell? ⟨b,o,none⟩)/\(∀b o,b<W.heap.size->a.frozen? ⟨b,o,none⟩=W.frozen? ⟨b,o,none⟩):=
 ⟨λb o h=>c.cell (p:=⟨b,o,none⟩) h,λb o h=>c.frozen (p:=⟨b,o,none⟩) h⟩
abbrev Kc(u w:Aa):Prop:=∀b o,b<u.heap.size->w.cell? ⟨b,o,none⟩=u.cell? ⟨b,o,none⟩
def Oo{w:Aa}{b o:Nat}{v:Value}(h:At w b o v):b<w.heap.size:=yI _ _ h
def BT(w:Aa)(g:Nat)(t:TypeId)(m N:Nat)(rs:List (Aj)):Prop:=
 ∃c:Bl,Bk w g c t/\c.size=N*m/\rs.length<=N/\∀i r,rs[i]?=some r->r.length=m/\∀j x,r[j]?=some x->c[i*m+j]?=some x
theorem BT.lt{w g t m N rs}(h:BT w g t m N rs):g<w.heap.size:=by grind[BT]
def BT.bD{w w' g t m N rs}(h:BT w g t m N rs)(e:w'.heap[g]?=w.heap[g]?):BT w' g t m N rs:=by
 obtain⟨c,b,a⟩:=h;exact⟨c,e.c b,a⟩
theorem BT.e{w w' g B t m N rs}(h:BT w g t m N rs)(a:Below B w w')(b:g<B):BT w' g t m N rs:=
 h.bD (a.block g b)
theorem BT.cell{w g t m N rs}(h:BT w g t m N rs){i j r x}(a:rs[i]?=some r)(hj:r[j]?=some x) :
  At w g (i*m+j) x:=by
 obtain⟨c,d,_,_,b⟩:=h;simp[World.cell?,d,(b i r a).2 j x hj]
def BT.there{w g t m N rs}(h:BT w g t m N rs){i j}(a:i<N)(hj:j<m):∃x,At w g (i*m+j) x:=by
 obtain⟨c,d,b,_,_⟩:=h;have hlt:i*m+j<c.size:=by
  rw[b];have:(i+1)*m<=N*m:=YI m a;rw[KU]at this;omega
 exact⟨c[i*m+j],by simp[World.cell?,d,hlt]⟩
def BT.put{w g t m N rs}(h:BT w g t m N rs)(r)(v:r.length=m)(o:rs.length<N):BT (w.setCells g (rs.length*m) r) g t m N (rs++[r]):=by
 obtain⟨c,l,b,z,y⟩:=h;obtain⟨s,p,d,k,n⟩:=iN r (rs.length*m) w g c t (0,0) l;refine⟨s,p,by rw[d,b],qe,?_⟩;intro i q a;by_cases hlt:i<rs.length
 .rw[yr hlt]at a;obtain⟨e,u⟩:=y i q a;refine⟨e,λj x hj=>?_⟩;have O:j<q.length:=(yf.1 hj).1;rw[n _ (Or.inl ?_)]
  .exact u j x hj
  have:(i+1)*m<=rs.length*m:=YI m hlt;rw[KU]at this;omega
 have f:i<(rs++[r]).length:=(yf.1 a).1;simp at f;obtain rfl:i=rs.length:=qd;simp at a;subst a;refine⟨v,λj x hj=>k j x hj ?_⟩;have O:j<r.length:=(yf.1 hj).1;rw[b];have:(rs.length+1)*m<=N*m:=YI m o;rw[KU]at this;omega
def BT.be{w g t m N rs}(h:BT w g t m N rs){p}(a:g≠p.block)(x):BT (w.setCell p x) g t m N rs:=
 h.bD (yD _ _ _ _ a)
def BT.el{w g t N k rs}(h:BT w g t 3 N rs)(a:rs.length=k)(b:k<N)(x y z) :
  BT (((w.setCell ⟨g,k*3,none⟩ x).setCell ⟨g,k*3+1,none⟩ y).setCell ⟨g,k*3+2,none⟩ z) g t 3 N (rs++[[x,y,z]]):=by
 subst a;exact h.put [x,y,z] rfl b
def BT.aO(w:Aa)(z t m N):BT (w.alloc (.cells (madeCells z (N*m)) t)) w.heap.size t m N []:=
 ⟨_,heap_alloc_new _ _,size_madeCells _ _,yn _,λi r h=>by simp at h⟩
def BT.alloc{w g t m N rs}(h:BT w g t m N rs)(o):BT (w.alloc o) g t m N rs:=
 h.bD (yN _ _ _ h.lt)
abbrev V:=Int × Int × ByteArray
abbrev AH:=List V
def V.w(v:V):Int:=v.1
def V.num(v:V):Int:=v.2.1
def V.O(v:V):ByteArray:=v.2.2
theorem V.same{v u:V}(b:v.w=u.w)(c:v.num=u.num)(a:v.O=u.O):v=u:=Prod.ext b (Prod.ext c a)
structure F where
 tag:Int
 E:ByteArray
 v:AH
abbrev Fs:=List (Value × F)
abbrev Am:=List (List F)
abbrev Ab:=List F
def Cj(w:Aa)(a:Af)(vs:AH):Prop:=
 ∀ (i:Nat) (v:V),vs[i]?=some v->∃ b o,a=some ⟨b,o,none⟩/\w.cell? ⟨b,o+i * 3,none⟩=some (.int .i64 v.w) /\
  w.cell? ⟨b,o+i*3+1,none⟩=some (.int .i64 v.num)/\w.cell? ⟨b,o+i*3+2,none⟩=some (.string v.O)
def Cs(w:Aa)(a:Af)(fs:Ab):Prop:=
 ∀ (i:Nat) (f:F),fs[i]?=some f->∃ b o,a=some ⟨b,o,none⟩/\w.cell? ⟨b,o+i * 3,none⟩=some (.int .i64 f.tag) /\
  w.cell? ⟨b,o+i*3+1,none⟩=some (.string f.E)/\∃a' c,w.cell? ⟨b,o+i*3+2,none⟩=some (.slice a' f.v.length c)/\Cj w a' f.v
theorem zab{w w' p x}(b:Bw w w')(h:w.cell? p=some x):w'.cell? p=some x:=by
 rw[b.cell (p:=p) ?_]
 .exact h
 unfold World.cell? at h;by_cases a:p.block<w.heap.size
 .exact a
 rw[Ki qd]at h;simp at h
theorem Cj.e{w w' a vs}(h:Cj w a vs)(c:Bw w w'):Cj w' a vs:=by
 intro i v hv;obtain⟨b,o,rfl,d,f,g⟩:=h i v hv;exact⟨b,o,rfl,zab c d,zab c f,zab c g⟩
theorem Cs.e{w w' a fs}(h:Cs w a fs)(d:Bw w w'):Cs w' a fs:=by
 intro i f l;obtain⟨b,o,rfl,g,j,m,c,k,n⟩:=h i f l;exact⟨b,o,rfl,zab d g,zab d j,m,c,zab d k,n.e d⟩
def V.cells(v:V):Aj:=[.int .i64 v.w,.int .i64 v.num,.string v.O]
def Bx(f:F)(x:Value):Aj:=[.int .i64 f.tag,.string f.E,x]
def Cj.aa{w g t N vs}(h:BT w g t 3 N (vs.map V.cells)):Cj w (some ⟨g,0,none⟩) vs:=by
 intro i v hv;have a:(vs.map V.cells)[i]?=some v.cells:=by simp[hv]
 refine⟨g,0,rfl,?_,?_,?_⟩
 .simpa using h.cell a (j:=0) rfl
 .simpa using h.cell a (j:=1) rfl
 simpa using h.cell a (j:=2) rfl
def GT{k a b}(h:a=b):Ending.returned (.int k a)=.returned (.int k b):=by rw[h]
def Dk(v:V):Bool:=(v.w==0&&v.O.toList.isEmpty)||(v.w==1&&(v.num==0&&AP v.O.data.toList))
def DO(vs:AH):Bool:=decide (vs.length<=6)&&vs.all Dk
def Jl(last:Int)(f:F):Bool:=decide (last<f.tag)&&(decide (f.tag<=1000000)&&(AP f.E.data.toList&&DO f.v))
def CL(last:Int):Ab->Bool
 |[]=>true
 |f::r=>Jl last f&&CL f.tag r
def ET(fs:Ab):Bool:=decide (fs.length<=40)&&CL 0 fs
def IZ(sg:Bool)(f g:F):Bool:=!(sg&&(decide (g.E=f.E)&&decide (f.v=g.v)))
def DE(sg:Bool)(f:F)(pre:Ab):Bool:=pre.all (IZ sg f)
def Cl(sg:Bool)(nx:Int):Ab->Ab->Bool
 |_,[]=>true
 |pre,f::r=>decide (f.tag<nx)&&(DE sg f pre&&Cl sg nx (pre++[f]) r)
def Hn(fs:Ab)(nx cp:Int):Bool:=decide (0<=cp)&&(decide (cp<=40)&&(decide ((fs.length:Int)<=cp)&&(ET fs&&(decide (1<=nx)&&decide (nx<=1000001)))))
def CQ(fs:Ab)(nx cp:Int)(sg:Bool):Bool:=Hn fs nx cp&&Cl sg nx [] fs
abbrev Lk:=ByteArray × AH
def Cd(f:F):Lk:=(f.E,f.v)
def SZ{f g}:Cd f=Cd g↔f.E=g.E/\f.v=g.v:=YF _ _ _ _▸Iff.rfl
def Re(nx:Int)(fs:Ab):Bool:=match fs.getLast? with|some f=>decide (f.tag<nx)|none=>true
def Oi(fs:Ab)(nx cp:Int)(sg:Bool):Bool:=Hn fs nx cp&&(Re nx fs&&(!sg||decide ((fs.map Cd).Nodup)))
theorem gK{last}:∀{fs:Ab},CL last fs=true->∀f∈fs,∀l,fs.getLast?=some l->f.tag<=l.tag
 |[],_,f,hf,_,_=>by simp at hf
 |g::r,h,f,hf,l,hl=>by
  simp only[CL,ym]at h
  cases r with
  |nil=>
   simp at hf hl
   subst hf
   subst hl
   exact Wh _
  |cons O c=>
   have a:(O::c).getLast?=some l:=NB
   rcases yW.1 hf with rfl|b
   .have e:=gK h.2 O qf l a
    have d:=h.2
    simp only[CL,Jl,ym,decide_eq_true_eq]at d
    omega
   exact gK h.2 f b l a
def zpe{last nx fs}(h:CL last fs=true):Re nx fs=fs.all (λf=>decide (f.tag<nx)):=by grind[CL,Re,-> gK]
def zl5(sg:Bool)(nx:Int):∀(fs pre:Ab),Cl sg nx pre fs=(fs.all (λf=>decide (f.tag<nx))&&Cl sg (nx) pre fs)
 |[],_=>by simp[Cl]
 |f::r,pre=>by
  simp only[Cl,YR]
  rw[zl5 sg nx r (pre++[f])]
  cases decide (f.tag<nx)<;>cases DE sg f pre<;>cases r.all (λf=>decide (f.tag<nx))<;>cases Cl sg nx (pre++[f]) r<;>rfl
def gj(nx):∀(fs pre:Ab),Cl false nx pre fs=fs.all (λf=>decide (f.tag<nx))
 |[],_=>by simp[Cl]
 |f::r,pre=>by
  simp only[Cl,YR]
  rw[gj nx r (pre++[f])]
  have:DE false f pre=true:=by simp[DE,IZ]
  simp[this]
def oW(f pre):DE true f pre=true↔Cd f ∉ pre.map Cd:=by
 unfold DE;rw[Y7];constructor
 .intro h e;obtain⟨g,b,a⟩:=yv.1 e;have:=h g b;rw[SZ]at a;simp[IZ,a.1,a.2]at this
 intro h g b;simp only[IZ,YK,Kj,WS,decide_eq_false_iff_not];by_cases c:g.E=f.E
 .right;intro d;exact h (yv.2 ⟨g,b,SZ.2 ⟨c,d.z⟩⟩)
 left;exact c
def gY(nx):∀(fs pre:Ab),(pre.map Cd).Nodup->Cl true nx pre fs=(fs.all (λf=>decide (f.tag<nx))&&decide (((pre++fs).map Cd).Nodup))
 |[],pre,h=>by simp[Cl,h]
 |f::r,pre,h=>by
  simp only[Cl,YR]
  by_cases c:Cd f∈pre.map Cd
  .have:¬((pre++f::r).map Cd).Nodup:=by
    rw[yz,yL];rintro⟨_,_,k⟩;exact k (Cd f) c (Cd f) qf rfl
   have g:DE true f pre=false:=by
    cases i:DE true f pre
    .rfl
    exact absurd c ((oW f pre).1 i)
   rw[decide_eq_false this,g];simp
  have j:((pre++[f]).map Cd).Nodup:=by
   rw[yz,yL];refine⟨h,qf,?_⟩;intro a O b d;simp at d;subst d;intro e;exact c (e▸O)
  rw[gY nx r (pre++[f]) j,(oW f pre).2 c,YK,yY,Bool.and_assoc];rfl
def zqH(fs nx cp sg):Oi fs nx cp sg=CQ fs nx cp sg:=by
 unfold Oi CQ;cases a:Hn fs nx cp with
 |false=>rfl
 |true=>
  have b:CL 0 fs=true:=by
   simp only[Hn,ET,ym]at a;exact a.2.2.2.1.2
  rw[zpe b];cases sg with
  |false=>simp[gj]
  |true=>
   rw[gY nx fs [] qf];simp
def Qb(q:AD)(w:Aa)(t:TypeId)(b:Nat):Prop:=∀B,q=some B->B<=b/\∃c,Bk w b c t
def Jb(B:Nat)(w w':Aa):Prop:=∀b,B<=b->w'.heap[b]?=w.heap[b]?
def Jb.refl(B w):Jb B w w:=λ_ _=>rfl
def Jb.c{B w w' O}(h:Jb B w w')(d:Jb B w' O):Jb B w O:=λb a=>(d b a).c (h b a)
def Jb.setCell{B g i w}(a:g<B)(x):Jb B w (w.setCell ⟨g,i,none⟩ x):=λb c=>yD _ _ _ _ qe
def Jb.setCells{B g}(a:g<B):∀(vs:Aj)(o:Nat)(w:Aa),Jb B w (w.setCells g o vs)
 |[],_,_=>Jb.refl _ _
 |v::r,o,_=>(Jb.setCell a v).c (Jb.setCells a r (o+1) _)
def Qb.ac(w t b):Qb none w t b:=λB h=>by cases h
theorem Qb.e{q w w' t b}(h:Qb q w t b)(d:Bw w w'):Qb q w' t b:=by
 cases q with
 |none=>exact Qb.ac _ _ _
 |some B=>
  intro O e;obtain⟨f,c,a⟩:=h O e;exact⟨f,c,(d.block b (Ap a)).c a⟩
section
variable {α : Type}
def CI(R:Aa->Aj->α->Prop)(q:AD)(t:TypeId)(m:Nat)(w:Aa)(a:Af)(xs:List α):Prop:=
 ∀(i:Nat)(x:α),xs[i]?=some x->∃b o r,a=some ⟨b,o,none⟩/\Qb q w t b/\r.length=m/\(∀j v,r[j]?=some v->w.cell? ⟨b,o+i*m+j,none⟩=some v)/\R w r x
variable {R R' : Aa -> Aj -> α -> Prop} {q q' : AD} {t : TypeId} {m : Nat} {w w' : Aa} {a : Af} {xs : List α}
def CI.nil:CI R q t m w a ([]:List α):=λi x h=>by simp at h
theorem CI.e(h:CI R q t m w a xs)(b:∀r x,x∈xs->R w r x->R w' r x)(c:Bw w w'):CI R q t m w' a xs:=by grind[Qb,CI,-> zab,-> Qb.e]
def CI.bi(h:CI R q t m w a xs)(d:∀b,Qb q w t b->Qb q' w t b)(c:∀r x,x∈xs->R w r x->R' w r x):CI R' q' t m w a xs:=by grind[Qb,CI]
theorem CI.drop(h:CI R q t m w a xs){b o k}(O:a=some ⟨b,o,none⟩):CI R q t m w (some ⟨b,o+k*m,none⟩) (xs.drop k):=by grind[Qb,CI]
def CI.take(h:CI R q t m w a xs)(k):CI R q t m w a (xs.take k):=by grind[Qb,CI]
def JX(R:Aa->Aj->α->Prop)(t:TypeId)(m:Nat)(w:Aa)(g N:Nat)(xs:List α):Prop:=
 ∃rows,BT w g t m N rows/\rows.length=xs.length/\∀(i:Nat)(x:α)(r:Aj),xs[i]?=some x->rows[i]?=some r->R w r x
theorem JX.lt{g N}(h:JX R t m w g N xs):g<w.heap.size:=by
 obtain⟨_,h,_⟩:=h;exact h.lt
def JX.at{g N B}(h:JX R t m w g N xs)(l:B<=g):CI R (some B) t m w (some ⟨g,0,none⟩) xs:=by
 obtain⟨rows,n,hl,p⟩:=h;intro i x b;have k:i<rows.length:=by rw[hl];exact(yf.1 b).1
 have a:rows[i]?=some rows[i]:=yK k;obtain⟨c,d,o,q,f⟩:=n;refine⟨g,0,rows[i],rfl,?_,(f i _ a).1,?_,p i x _ b a⟩
 .intro O e;injection e with e;subst e;exact⟨l,c,d⟩
 intro j v hj;rw[Yj];exact BT.cell ⟨c,d,o,q,f⟩ a hj
theorem JX.e{g N}(h:JX R t m w g N xs)(a:∀r x,x∈xs->R w r x->R w' r x)(b:Bw w w'):JX R t m w' g N xs:=by grind[JX,BT,BT.e,BT.lt]
def JX.room{g N k}(h:JX R t m w g N xs)(a:k<N)(j)(hj:j<m):∃x,At w g (k*m+j) x:=by
 obtain⟨rows,b,_⟩:=h;exact b.there a hj
def JX.put{g N k x r}(h:JX R t m w g N xs)(l:xs.length=k)(n:k<N)(j:r.length=m)(d:R w r x)(c:∀s y,(y∈xs∨y=x)->R w s y->R (w.setCells g (k*m) r) s y):JX R t m (w.setCells g (k*m) r) g N (xs++[x]):=by
 obtain⟨rows,f,hl,h⟩:=h;refine⟨rows++[r],?_,MS,?_⟩
 .have:=f.put r j qd;rwa [show rows.length=k by omega]at this
 intro i y s a b;by_cases e:i<xs.length
 .rw[yr e]at a;rw[yr qd]at b;exact c _ _ (.inl (yd a)) (h i y s a b)
 have O:i<(xs++[x]).length:=(yf.1 a).1;simp at O;obtain rfl:i=xs.length:=qd;simp at a;rw[yB qd]at b;simp[hl]at b;subst a b;exact c _ _ (.inr rfl) d
end
def FD{α:Type}(le:Nat->α->Prop)(N:Nat)(xs:List α):Prop:=xs.length<=N/\∀x∈xs,le N x
def jc(_:Aa)(r:Aj)(x:Int):Prop:=r=[.int .i64 x]
abbrev CJ(q:AD)(w:Aa)(a:Af)(xs:As):Prop:=CI jc q 3 1 w a xs
theorem CJ.e{q w w' a xs}(h:CJ q w a xs)(b:Bw w w'):CJ q w' a xs:=CI.e h (λ_ _ _ h=>h) b
def CJ.ac{q w a xs}(h:CJ q w a xs):CJ none w a xs:=CI.bi h (λb _=>Qb.ac _ _ b) (λ_ _ _ h=>h)
def CJ.get{q w a xs i x}(h:CJ q w a xs)(c:xs[i]?=some x):∃b o,a=some ⟨b,o,none⟩/\Qb q w 3 b/\At w b (o+i) (I6 x):=by
 obtain⟨b,o,r,e,f,j,g,d⟩:=h i x c;subst d;exact⟨b,o,e,f,by simpa using g 0 _ rfl⟩
structure Tm where
 w:Int
 op:Int
 F:ByteArray
 val:V
abbrev A3:=List Tm
def Tm.R(_:Aa)(r:Aj)(x:Tm):Prop:=r=[.int .i64 x.w,.int .i64 x.op,.string x.F,.int .i64 x.val.w,.int .i64 x.val.num,.string x.val.O]
abbrev Gs(q:AD)(w:Aa)(a:Af)(xs:A3):Prop:=CI Tm.R q 189 6 w a xs
theorem Gs.e{q w w' a xs}(h:Gs q w a xs)(b:Bw w w'):Gs q w' a xs:=CI.e h (λ_ _ _ h=>h) b
def Gs.ac{q w a xs}(h:Gs q w a xs):Gs none w a xs:=CI.bi h (λb _=>Qb.ac _ _ b) (λ_ _ _ h=>h)
def Gs.get{q w a xs i x}(h:Gs q w a xs)(hi:xs[i]?=some x):∃b o,a=some ⟨b,o,none⟩/\Qb q w 189 b/\At w b (o+i*6) (I6 x.w)/\At w b (o+i*6+1) (I6 x.op)/\At w b (o+i*6+2) (.string x.F)/\At w b (o+i*6+3) (I6 x.val.w)/\At w b (o+i*6+4) (I6 x.val.num)/\At w b (o+i*6+5) (.string x.val.O):=by
 exact sw
def Tm.le(N:Nat)(x:Tm):Prop:=x.F.size<=N/\x.val.O.size<=N
structure Pt where
 neg:Bool
 E:ByteArray
 s:A3
abbrev Bi:=List Pt
def Pt.R(q:AD)(w:Aa)(r:Aj)(x:Pt):Prop:=∃a_terms c_terms,r=[.bool x.neg,.string x.E,.slice a_terms x.s.length c_terms]/\Gs q w a_terms x.s/\x.s.length<=c_terms
abbrev Gl(q:AD)(w:Aa)(a:Af)(xs:Bi):Prop:=CI (Pt.R q) q 152 3 w a xs
theorem Gl.e{q w w' a xs}(h:Gl q w a xs)(d:Bw w w'):Gl q w' a xs:=CI.e h (λ_ _ _⟨b,c,e,O,cp⟩=>⟨b,c,e,O.e d,cp⟩) d
def Gl.ac{q w a xs}(h:Gl q w a xs):Gl none w a xs:=CI.bi h (λb _=>Qb.ac _ _ b) (λ_ _ _⟨c,d,e,O,cp⟩=>⟨c,d,e,O.ac,cp⟩)
def Gl.get{q w a xs i x}(h:Gl q w a xs)(j:xs[i]?=some x):∃b o c d,a=some ⟨b,o,none⟩/\Qb q w 152 b/\At w b (o+i*3) (.bool x.neg)/\At w b (o+i*3+1) (.string x.E)/\At w b (o+i*3+2) (.slice c x.s.length d)/\Gs q w c x.s:=by
 obtain⟨b,o,r,g,k,l,e,f⟩:=h i x j;obtain⟨c,d,rfl,O,_⟩:=f;exact⟨b,o,c,d,g,k,e 0 _ rfl,e 1 _ rfl,e 2 _ rfl,O⟩
def Gl.dK{q w a xs i x}(h:Gl q w a xs)(j:xs[i]?=some x):∃b o d c,a=some ⟨b,o,none⟩/\Qb q w 152 b/\At w b (o+i*3) (.bool x.neg)/\At w b (o+i*3+1) (.string x.E)/\At w b (o+i*3+2) (.slice d x.s.length c)/\Gs q w d x.s/\x.s.length<=c:=by
 obtain⟨b,o,r,g,k,l,e,f⟩:=h i x j;obtain⟨d,c,rfl,O,cp⟩:=f;exact⟨b,o,d,c,g,k,e 0 _ rfl,e 1 _ rfl,e 2 _ rfl,O,cp⟩
def Pt.le(N:Nat)(x:Pt):Prop:=x.E.size<=N/\FD Tm.le N x.s
structure Ex where
 w:Int
 op:Int
 F:ByteArray
 val:V
 a:Int
 b:Int
abbrev AL:=List Ex
def Ex.R(_:Aa)(r:Aj)(x:Ex):Prop:=r=[.int .i64 x.w,.int .u8 x.op,.string x.F,.int .i64 x.val.w,.int .i64 x.val.num,.string x.val.O,.int .i64 x.a,.int .i64 x.b]
abbrev EI(q:AD)(w:Aa)(a:Af)(xs:AL):Prop:=CI Ex.R q 225 8 w a xs
theorem EI.e{q w w' a xs}(h:EI q w a xs)(b:Bw w w'):EI q w' a xs:=CI.e h (λ_ _ _ h=>h) b
def EI.ac{q w a xs}(h:EI q w a xs):EI none w a xs:=CI.bi h (λb _=>Qb.ac _ _ b) (λ_ _ _ h=>h)
def EI.get{q w a xs i x}(h:EI q w a xs)(d:xs[i]?=some x):∃b o,a=some ⟨b,o,none⟩/\Qb q w 225 b/\At w b (o+i*8) (I6 x.w)/\At w b (o+i*8+1) (.int .u8 x.op)/\At w b (o+i*8+2) (.string x.F)/\At w b (o+i*8+3) (I6 x.val.w)/\At w b (o+i*8+4) (I6 x.val.num)/\At w b (o+i*8+5) (.string x.val.O)/\At w b (o+i*8+6) (I6 x.a)/\At w b (o+i*8+7) (I6 x.b):=by
 obtain⟨b,o,r,f,g,j,c,e⟩:=h i x d;subst e;exact⟨b,o,f,g,c 0 _ rfl,c 1 _ rfl,c 2 _ rfl,c 3 _ rfl,c 4 _ rfl,c 5 _ rfl,c 6 _ rfl,c 7 _ rfl⟩
def Ex.le(N:Nat)(x:Ex):Prop:=x.F.size<=N/\x.val.O.size<=N
structure Ac where
 w:Int
 k:Int
 E:ByteArray
 args:As
abbrev CY:=List Ac
def Ac.R(q:AD)(w:Aa)(r:Aj)(x:Ac):Prop:=∃a_args c_args,r=[.int .i64 x.w,.int .i64 x.k,.string x.E,.slice a_args x.args.length c_args]/\CJ q w a_args x.args
abbrev Ih(q:AD)(w:Aa)(a:Af)(xs:CY):Prop:=CI (Ac.R q) q 227 4 w a xs
theorem Ih.e{q w w' a xs}(h:Ih q w a xs)(f:Bw w w'):Ih q w' a xs:=CI.e h (λ_ _ _⟨d,b,e,c⟩=>⟨d,b,e,c.e f⟩) f
def Ih.ac{q w a xs}(h:Ih q w a xs):Ih none w a xs:=CI.bi h (λb _=>Qb.ac _ _ b) (λ_ _ _⟨f,c,e,d⟩=>⟨f,c,e,d.ac⟩)
def Ih.get{q w a xs i x}(h:Ih q w a xs)(l:xs[i]?=some x):∃b o c d,a=some ⟨b,o,none⟩/\Qb q w 227 b/\At w b (o+i*4) (I6 x.w)/\At w b (o+i*4+1) (I6 x.k)/\At w b (o+i*4+2) (.string x.E)/\At w b (o+i*4+3) (.slice c x.args.length d)/\CJ q w c x.args:=by
 obtain⟨b,o,r,j,m,n,f,g⟩:=h i x l;obtain⟨c,d,rfl,e⟩:=g;exact⟨b,o,c,d,j,m,f 0 _ rfl,f 1 _ rfl,f 2 _ rfl,f 3 _ rfl,e⟩
def Ac.le(N:Nat)(x:Ac):Prop:=x.E.size<=N/\x.args.length<=N
structure Ru where
 name:ByteArray
 aq:Int
 x:Bi
 A:AL
 K:CY
abbrev Az:=List Ru
def Ru.R(q:AD)(w:Aa)(r:Aj)(x:Ru):Prop:=∃a_pats c_pats a_exprs c_exprs a_acts c_acts,r=[.string x.name,.int .i64 x.aq,.slice a_pats x.x.length c_pats,.slice a_exprs x.A.length c_exprs,.slice a_acts x.K.length c_acts]/\Gl q w a_pats x.x/\EI q w a_exprs x.A/\Ih q w a_acts x.K/\x.A.length<=c_exprs
abbrev Fg(q:AD)(w:Aa)(a:Af)(xs:Az):Prop:=CI (Ru.R q) q 53 5 w a xs
theorem Fg.e{q w w' a xs}(h:Fg q w a xs)(k:Bw w w'):Fg q w' a xs:=CI.e h (λ_ _ _⟨f,g,b,d,j,i,e,m,c,l,O⟩=>⟨f,g,b,d,j,i,e,m.e k,c.e k,l.e k,O⟩) k
def Fg.ac{q w a xs}(h:Fg q w a xs):Fg none w a xs:=CI.bi h (λb _=>Qb.ac _ _ b) (λ_ _ _⟨g,i,c,f,k,j,e,l,d,m,O⟩=>⟨g,i,c,f,k,j,e,l.ac,d.ac,m.ac,O⟩)
def Fg.get{q w a xs i x}(h:Fg q w a xs)(t:xs[i]?=some x):∃b o e g c d f j,a=some ⟨b,o,none⟩/\Qb q w 53 b/\At w b (o+i*5) (.string x.name)/\At w b (o+i*5+1) (I6 x.aq)/\At w b (o+i*5+2) (.slice e x.x.length g)/\At w b (o+i*5+3) (.slice c x.A.length d)/\At w b (o+i*5+4) (.slice f x.K.length j)/\Gl q w e x.x/\EI q w c x.A/\Ih q w f x.K/\x.A.length<=d:=by
 obtain⟨b,o,r,p,u,v,l,m⟩:=h i x t;obtain⟨e,g,c,d,f,j,rfl,s,k,n,O⟩:=m;exact⟨b,o,e,g,c,d,f,j,p,u,l 0 _ rfl,l 1 _ rfl,l 2 _ rfl,l 3 _ rfl,l 4 _ rfl,s,k,n,O⟩
def Ru.le(N:Nat)(x:Ru):Prop:=x.name.size<=N/\FD Pt.le N x.x/\FD Ex.le N x.A/\FD Ac.le N x.K
def DA(s:ByteArray):Bool:=s.toList.isEmpty
def E4(v:V):Bool:=v.w==0&&(v.num==0&&DA v.O)
def Ng(t:Tm):Bool:=(DA t.F&&Dk t.val)||(AP t.F.data.toList&&E4 t.val)
def DC(t:Tm):Bool:=
 if t.w==0 then t.op==0&&(DA t.F&&E4 t.val)
 else if t.w==1 then t.op==0&&(DA t.F&&Dk t.val)
 else if t.w==2 then t.op==0&&(AP t.F.data.toList&&E4 t.val)
 else if t.w==3 then decide (1<=t.op)&&(decide (t.op<=6)&&Ng t)
 else false
def Ui:ByteArray:=⟨#[110,111,116]⟩
def DS(s:ByteArray):Bool:=AP s.data.toList&&!(decide (s=Ui))
def Ej(p:Pt):Bool:=DS p.E&&(decide (p.s.length<=6)&&p.s.all DC)
def Eu{α:Type}(f:α->Bool):List α->Nat->AD
 |[],_=>none
 |x::r,k=>if f x then Eu f r (k+1) else some k
abbrev Sp:=Nat × Nat
abbrev BS:=List Sp
def Eh(op:Int):Bool:=op==43||(op==45||(op==42||(op==47||op==37)))
def MC(e:Ex):Bool:=e.op==0&&(e.a==0&&e.b==0)
def JC(S:BS)(a b:Int):Option Sp:=
 match S[b.toNat]?,S[a.toNat]? with
 |some sb,some sa=>if decide (a=(sb.1:Int)-1)&&decide (1+max sa.2 sb.2<=20) then some (sa.1,1+max sa.2 sb.2) else none
 |_,_=>none
def EW(S:BS)(e:Ex):Bool:=Eh e.op&&(DA e.F&&(E4 e.val&&(decide (e.b=(S.length:Int)-1)&&(decide (0<=e.b)&&decide (0<=e.a)))))
def DY(S:BS)(e:Ex):Option Sp:=
 if e.w==0 then(if MC e&&(DA e.F&&Dk e.val) then some (S.length,0) else none)
 else if e.w==1 then(if MC e&&(AP e.F.data.toList&&E4 e.val) then some (S.length,0) else none)
 else if e.w==2 then(if EW S e then JC S e.a e.b else none)
 else none
def Dv:BS->AL->BS
 |S,[]=>S
 |S,e::r=>match DY S e with
  |none=>S
  |some s=>Dv (S++[s]) r
def EU(S:BS):As->Nat->AD
 |[],nx=>some nx
 |x::r,nx=>if decide (0<=x)&&(decide (x<(S.length:Int))&&decide ((S[x.toNat]?.getD (0,0)).1=nx)) then EU S r (x.toNat+1) else none
def OS(k:Int):Bool:=decide (-1000000<=k)&&decide (k<=1000000)
def Et(a:Ac):Bool:=
 if a.w==1 then DS a.E&&a.k==0
 else if a.w==2 then(DA a.E&&OS a.k)&&a.args.isEmpty
 else if a.w==3 then DA a.E&&OS a.k
 else if a.w==4 then DA a.E&&(a.k==0&&a.args.isEmpty)
 else false
def CM(S:BS)(a:Ac)(nx:Nat):AD:=if Et a&&decide (a.args.length<=6) then EU S a.args nx else none
def He(S:BS):CY->Nat->Nat->AD
 |[],nx,k=>if nx=S.length then none else some k
 |a::r,nx,k=>match CM S a nx with
  |none=>some k
  |some nx'=>He S r nx' (k+1)
def LO(r:Ru):Bool:=AP r.name.data.toList&&(decide (r.x.length<=6)&&(decide (r.K.length<=8)&&decide (r.A.length<=60)))
def AO(r:Ru):AD:=
 if LO r then
  match Eu Ej r.x 1 with
  |some i=>some i
  |none=>if(Dv [] r.A).length<r.A.length then some ((Dv [] r.A).length+1) else He (Dv [] r.A) r.K 0 1
 else some 0
def La(p:Pt):Bool:=!p.neg
def Ag(ps:Bi):Nat:=ps.countP La
def Co(s:ByteArray)(l:AG):Bool:=l.any λx=>decide (x=s)
def El(t:Tm):Bool:=t.w==3&&!DA t.F
def Dd:A3->AG->Option (AG)
 |[],here=>some here
 |t::r,here=>if El t&&!Co t.F here then none else Dd r (if t.w==2 then here++[t.F] else here)
def Fw:Bi->AG->Nat->Nat ⊕ AG
 |[],known,_=>.inr known
 |p::r,known,k=>match Dd p.s known with
  |none=>.inl k
  |some here=>Fw r (if p.neg then known else here) (k+1)
def E8(known:AG)(e:Ex):Bool:=!(e.w==1)||Co e.F known
def LS(a:Ac):Nat:=match a.args.getLast? with|none=>0|some l=>l.toNat+1
def Hd(es:AL)(known:AG)(a:Ac):Bool:=a.args.isEmpty||(es.take (LS a)).all (E8 known)
def Bp(r:Ru):AD:=
 match Fw r.x [] 1 with
 |.inl i=>some i
 |.inr known=>Eu (Hd r.A known) r.K (r.x.length+1)
def EH(most:Nat)(a:Ac):Bool:=!((a.w==2||a.w==3)&&!(decide (1<=a.k)&&decide (a.k<=(most:Int))))
def CU(r:Ru):AD:=Eu (EH (Ag r.x)) r.K (r.x.length+1)
def CC(pre:Az)(r:Ru):Int × Int:=
 match AO r with
 |some i=>(1,i)
 | none=>if pre.any (λo=>decide (o.name=r.name)) then (2,0)
  else if 1<=Ag r.x/\Ag r.x<=3 then
   match Bp r with
   |some i=>(4,i)
   |none=>match CU r with
    |some i=>(5,i)
    |none=>(0,0)
  else(3,0)
def Gj:Az->Az->Nat->Int × Int × Int
 |_,[],_=>(0,0,0)
 |pre,r::s,k=>if(CC pre r).1=0 then Gj (pre++[r]) s (k+1) else((CC pre r).1,k,(CC pre r).2)
def Cf(rs:Az):Int × Int × Int:=if rs.length<=16 then Gj [] rs 0 else(1,0,0)
def Bt(es:AL)(S:BS):Prop:=S.length<=es.length/\∀(i:Nat)(s:Sp)(e:Ex),S[i]?=some s->es[i]?=some e->DY (S.take i) e=some s
def Bt.nil(es):Bt es []:=⟨yn _,λi s e h=>by simp at h⟩
def Bt.snoc{es S e s}(h:Bt es S)(b:es[S.length]?=some e)(f:DY S e=some s):Bt es (S++[s]):=by
 refine⟨by have:=(yf.1 b).1;simp;omega,λi g d a O=>?_⟩;by_cases hlt:i<S.length
 .rw[yr hlt]at a;rw[KC qd];exact h.2 i g d a O
 have c:i<(S++[s]).length:=(yf.1 a).1;simp at c;obtain rfl:i=S.length:=qd;simp at a;subst a;rw[b]at O;injection O with O;subst O;rw[KC Bg,yZ];exact f
def iH{es}:∀{l:AL}{S:BS},Bt es S->es.drop S.length=l->Bt es (Dv S l)/\S.length<=(Dv S l).length
 |[],S,h,_=>⟨h,yA _⟩
 |e::r,S,h,hd=>by
  have b:es[S.length]?=some e:=by
   have:=KX (xs:=es) (i:=S.length) (j:=0);rw[hd]at this;simpa using this.z
  unfold Dv;split
  .exact⟨h,yA _⟩
  rename_i s a;have O:es.drop (S++[s]).length=r:=by
   rw[yM,<-List.drop_drop,hd];rfl
  have:=iH (h.snoc b a) O;exact⟨this.1,by have:=this.2;simp at this;omega⟩
def Bt.op{es S}(h:Bt es S){i}{s:Sp}{e}(k:S[i]?=some s)(o:es[i]?=some e)(p:e.w=2) :
  ∃(a b:Nat)(sa sb:Sp),e.a=(a:Int)/\e.b=(b:Int)/\b+1=i/\a<b+1/\S[a]?=some sa/\S[b]?=some sb/\s=(sa.1,1+max sa.2 sb.2):=by
 have:=h.2 i s e k o;unfold DY at this;simp only[p]at this;rw[if_neg qi,if_neg qi,if_pos qi]at this;split at this
 .rename_i l;simp only[EW,ym,decide_eq_true_eq]at l;obtain⟨_,_,_,n,j,m⟩:=l;have q:i<S.length:=(yf.1 k).1;have c:(S.take i).length=i:=by simp;omega
  rw[c]at n;obtain⟨b,d⟩:=Yk j;obtain⟨a,O⟩:=Yk m;unfold JC at this;rw[d,O]at this;simp only[YG]at this;split at this
  .rename_i sb sa g f;rw[YW]at g f;split at g
   .split at f
    .split at this
     .injection this with this;exact⟨a,b,sa,sb,O,d,qd,qd,f,g,this.z⟩
     cases this
    .cases f
   cases g
  .cases this
 cases this
def Bt.bM{es S}(h:Bt es S){i}{s:Sp}{e}(b:S[i]?=some s)(c:es[i]?=some e)(hk:e.w≠2):s=(i,0):=by
 have:=h.2 i s e b c;have d:i<S.length:=(yf.1 b).1;have a:(S.take i).length=i:=by simp;omega
 unfold DY at this;have O:(e.w==2)=false:=T9;rw[O,a]at this;split at this
 .split at this
  .injection this with this;exact this.z
  cases this
 split at this
 .split at this
  .injection this with this;exact this.z
  cases this
 simp at this
def Bt.aS{es S}(h:Bt es S)(i:Nat)(s)(a:S[i]?=some s):s.2<=20:=by
 have O:i<S.length:=(yf.1 a).1;have f:=h.1;obtain⟨e,c⟩:∃e,es[i]?=some e:=⟨es[i]'(by omega),qf⟩
 by_cases d:e.w=2
 .have:=h.2 i s e a c;unfold DY at this;simp only[d]at this;rw[if_neg qi,if_neg qi,if_pos qi]at this;split at this
  .unfold JC at this;split at this
   .split at this
    .rename_i b;injection this with this;simp only[ym,decide_eq_true_eq]at b;rw[<-this];exact b.2
    cases this
   .cases this
  cases this
 rw[h.bM a c d];exact yn _
def Bt.bf{es S}(h:Bt es S):∀(i:Nat)(s:Sp),S[i]?=some s->s.1<=i:=by
 intro i
 induction i using Nat.strongRecOn with
 |_ i ih=>
  intro s c;have O:i<S.length:=(yf.1 c).1;have j:=h.1;obtain⟨e,d⟩:∃e,es[i]?=some e:=⟨es[i]'(by omega),qf⟩
  by_cases f:e.w=2
  .obtain⟨a,b,sa,sb,_,_,k,l,g,m,rfl⟩:=h.op c d f;have:=ih a qd sa g;simp;omega
  rw[h.bM c d f];exact yA _
def iC(c w) :
  Ca 246 #[.int .u8 c] w λe w'=>e=.returned (.bool (GX c))/\w'=w:=by
 go_enter func246,ntmps246;go_wp2
 all_goals (go_ret;exact⟨by simp[GX];omega,rfl⟩)
def zl1(c w) :
  Ca 247 #[.int .u8 c] w λe w'=>e=.returned (.bool (NH c))/\w'=w:=by
 go_enter func247,ntmps247;go_wp2
 all_goals (go_ret;exact⟨by simp[NH];omega,rfl⟩)
theorem Ox(s:ByteArray):s.data.toList.length=s.size:=by
 obtain⟨⟨l⟩⟩:=s;rfl
theorem ZW(s:ByteArray)(h:0<s.size):s.data.toList.headD 0=s[0]:=by
 obtain⟨⟨l⟩⟩:=s;cases l with
 |nil=>exact absurd h (WR 0)
 |cons a l=>rfl
theorem lO(s:ByteArray)(k)(h:k<s.size):s.data.toList[k]'(by rw[Ox];exact h)=s[k]:=by
 obtain⟨⟨l⟩⟩:=s;rfl
def oL{s:ByteArray}{k}(a:k<s.size)(h:JM (s[k].toNat:Int)=false):AP s.data.toList=false:=by grind[Hl,JM,Ox,ztv,lO]
def iL{s:ByteArray}{k}(a:k<s.size)(h:(s.data.toList.take k).all Hl=true)(b:JM (s[k].toNat:Int)=true):(s.data.toList.take (k+1)).all Hl=true:=by grind[Hl,JM,zj8,Ox,lO]
def zi0{s:ByteArray}{k}(c:0<s.size)(d:s.size<=20)(a:GX (s[0].toNat:Int)=true)(b:s.size<=k)(e:(s.data.toList.take k).all Hl=true):AP s.data.toList=true:=by grind[GX,Pd,Hl,zrz,Ox,ZW,List.take_of_length_le]
def xq(c):JM c=(GX c||NH c||!(c != 45)):=by grind[GX,NH,JM]
def xH{c}(h:(97<=c/\c<=122)∨(48<=c/\c<=57)∨(44<c/\c<46)):JM c=true:=by
 simp[JM,GX,NH];omega
def zu1{c}(h:¬((97<=c/\c<=122)∨(48<=c/\c<=57)∨(44<c/\c<46))):JM c=false:=by
 simp[JM,GX,NH];omega
def Ba{a b}(h:a=b):Ending.returned (.bool a)=.returned (.bool b):=by rw[h]
def td(h:P:=by go_wp2;go_ret;exact⟨Ba (zi0 hp (by omega) H2 (by omega) HA).z,rfl⟩):=h
def TO(h:P:=by go_ret;exact⟨Ba G.z,rfl⟩):=h
def LP(s w)(g:s.size<=maxLen) :
  Ca 197 #[.string s] w λe w'=>e=.returned (.bool (AP s.data.toList))/\w'=w:=by
 unfold maxLen at g;by_cases m:s.size<1
 .have G:Hid (AP s.data.toList=false):=VD (s:=s.data.toList) (by rw[Ox];omega);have l:(s.size:Int)<1:=qd;go_enter func197,ntmps197;go_wp2;exact TO
 by_cases q:20<s.size
 .have G:Hid (AP s.data.toList=false):=oV (s:=s.data.toList) (by rw[Ox];omega);have l:(20:Int)<s.size:=qd;go_enter func197,ntmps197;go_wp2;exact TO
 have hp:0<s.size:=qd;have r:decide ((s.size:Int)<1)=false:=by simp;omega
 have n:decide ((20:Int)<s.size)=false:=by simp;omega
 by_cases h2:GX (s[0].toNat:Int)=true
 .have H2:Hid (GX (s[0].toNat:Int)=true):=h2;go_enter func197,ntmps197;go_wp2_with (go_at_call 246;refine(iC _ _).j ?_;rintro e w' ⟨rfl,rfl⟩)
  go_loop [3] (λi=>∃k:Nat,1<=k/\k<=s.size/\i=I6 k/\(s.data.toList.take k).all Hl=true) (λi=>s.size-(intOf i).toNat)
  .exact⟨1,qd,qd,rfl,iL (k:=0) hp qf (zpr H2)⟩
  obtain⟨k,t,p,rfl,O⟩:=hrel;have HA:Hid ((s.data.toList.take k).all Hl=true):=O;by_cases hlt:k<s.size
  .obtain⟨a⟩:Nonempty (Hid (JM (s[k].toNat:Int)=(GX (s[k].toNat:Int)||NH (s[k].toNat:Int)||!((s[k].toNat:Int) != 45)))):=⟨xq _⟩
   cases b:GX (s[k].toNat:Int)<;>cases d:NH (s[k].toNat:Int)<;>cases c:((s[k].toNat:Int) != 45)
   all_goals
    go_wp2_with (first|(go_at_call 246;refine(iC _ _).j ?_;rintro e w' ⟨rfl,rfl⟩)|(go_at_call 247;refine(zl1 _ _).j ?_;rintro e w' ⟨rfl,rfl⟩))
    first
    | (go_round
       case rel=>exact⟨k+1,qd,qd,qm,iL hlt HA (by rw[a.o,b,d,c];rfl)⟩
       case measure=>simp[intOf];omega)
    | (go_ret
       exact⟨Ba (oL hlt (by rw[a.o,b,d,c];rfl)).z,rfl⟩)
  exact td
 have f:GX (s[0].toNat:Int)=false:=qw;have G:Hid (AP s.data.toList=false):=oZ (by rw[ZW s hp];exact f);go_enter func197,ntmps197;go_wp2_with (go_at_call 246;refine(iC _ _).j ?_;rintro e w' ⟨rfl,rfl⟩);exact TO
def J6(s w)(d:s.size<=maxLen) :
  Ca 116 #[.string s] w λe w'=>e=.returned (.bool (AP s.data.toList))/\w'=w:=by
 unfold maxLen at d;by_cases o:s.size<1
 .have G:Hid (AP s.data.toList=false):=VD (s:=s.data.toList) (by rw[Ox];omega);have g:(s.size:Int)<1:=qd;go_enter func116,ntmps116;go_wp2;exact TO
 by_cases t:20<s.size
 .have G:Hid (AP s.data.toList=false):=oV (s:=s.data.toList) (by rw[Ox];omega);have g:(20:Int)<s.size:=qd;go_enter func116,ntmps116;go_wp2;exact TO
 have hp:0<s.size:=qd;have u:decide ((s.size:Int)<1)=false:=by simp;omega
 have p:decide ((20:Int)<s.size)=false:=by simp;omega
 by_cases h2:GX (s[0].toNat:Int)=true
 .have H2:Hid (GX (s[0].toNat:Int)=true):=h2;simp only[GX,ym,decide_eq_true_eq]at h2;obtain⟨y,r⟩:=h2;have n:decide ((s[0].toNat:Int)<97)=false:=by simp;omega
  have x:decide ((122:Int)<(s[0].toNat:Int))=false:=by simp;omega
  go_enter func116,ntmps116;go_wp2
  go_loop [3] (λi=>∃k:Nat,k<=s.size/\i=I6 k/\(s.data.toList.take k).all Hl=true) (λi=>s.size-(intOf i).toNat)
  .exact⟨0,qd,rfl,qf⟩
  obtain⟨k,q,rfl,j⟩:=hrel;have HA:Hid ((s.data.toList.take k).all Hl=true):=j;by_cases hlt:k<s.size
  .rcases(show(s[k].toNat:Int)<45∨(44<(s[k].toNat:Int)/\(s[k].toNat:Int)<46)∨(45<(s[k].toNat:Int)/\(s[k].toNat:Int)<48)∨(48<=(s[k].toNat:Int)/\(s[k].toNat:Int)<=57)∨(57<(s[k].toNat:Int)/\(s[k].toNat:Int)<97)∨(97<=(s[k].toNat:Int)/\(s[k].toNat:Int)<=122)∨122<(s[k].toNat:Int) from by omega) with a|⟨a,O⟩|⟨a,O⟩|⟨a,O⟩|⟨a,O⟩|⟨a,O⟩|a
   all_goals
    first
    |have f:((s[k].toNat:Int)==45)=false:=qe
    |have f:((s[k].toNat:Int)==45)=true:=qe
    first
    |have l:decide ((s[k].toNat:Int)<=57)=false:=qe
    |have l:decide ((s[k].toNat:Int)<=57)=true:=qe
    first
    |have m:decide ((s[k].toNat:Int)<=122)=false:=qe
    |have m:decide ((s[k].toNat:Int)<=122)=true:=qe
    go_wp2
    first
    | (go_round
       case rel=>exact⟨k+1,qd,qm,iL hlt HA (xH qd)⟩
       case measure=>simp[intOf];omega)
    | (go_ret
       exact⟨Ba (oL hlt (zu1 qd)).z,rfl⟩)
  exact td
 have c:GX (s[0].toNat:Int)=false:=qw;have G:Hid (AP s.data.toList=false):=oZ (by rw[ZW s hp];exact c);have b:(s[0].toNat:Int)<97∨(97<=(s[0].toNat:Int)/\122<(s[0].toNat:Int)):=by
  simp only[GX,WS,decide_eq_false_iff_not]at c;omega
 rcases b with b|⟨b,v⟩
 all_goals
  go_enter func116,ntmps116;go_wp2;go_ret;exact⟨Ba G.z,rfl⟩
def V2(v w)(a:v.O.size<=maxLen) :
  Ca 176 #[.agg #[I6 v.w,I6 v.num,.string v.O]] w λe w'=>
   e=.returned (.bool (Dk v))/\Bw w w':=by
 obtain⟨G⟩:Nonempty (Hid (Dk v=((v.w==0&&v.O.toList.isEmpty)||(v.w==1&&(v.num==0&&AP v.O.data.toList))))):=⟨rfl⟩
 have f:=J6 v.O (w.alloc (.cells #[I6 v.w,I6 v.num,.string v.O] 187)) a;cases b:(v.w==0)<;>cases c:v.O.toList.isEmpty<;>cases d:(v.w==1)<;>cases g:(v.num==0)
 all_goals
  go_enter func176,ntmps176;go_wp2_with (go_at_call 116;refine f.j ?_;rintro e w' ⟨rfl,rfl⟩)
 all_goals try go_ret
 all_goals exact⟨Ba (by rw[G.o,b,c,d,g];simp),Ar⟩
theorem Gu{a b:ByteArray}:(a.toList==b.toList)=decide (a=b):=by
 rw[<-beq_toListBytes];by_cases h:a=b
 .subst h;rw[beq_toListBytes];simp
 rw[decide_eq_false h,beq_toListBytes];simp only[beq_eq_false_iff_ne,ne_eq,W6];intro e;exact h (Go.WideShapes.bytes_inj e)
def veq{v u:V}(h1:(v.w==u.w)=true)(h2:(v.num==u.num)=true)(h3:(v.O.toList==u.O.toList)=true):v=u:=by
 rw[Gu]at h3;exact V.same qx qw OM
def zu2{v u:V}{l l'}(h:v=u):decide (v::l=u::l')=decide (l=l'):=by grind
def zl{v u:V}{l l'}(h:v≠u):decide (v::l=u::l')=false:=by
 simp[h]
def SE(f:F):Bool:=decide (1<=f.tag)&&(decide (f.tag<=1000000)&&(AP f.E.data.toList&&DO f.v))
def ph{f x}(h:1<=f.tag)(e:SE f=x):(decide (f.tag<=1000000)&&(AP f.E.data.toList&&DO f.v))=x:=by
 unfold SE at e;rwa [decide_eq_true h,YK]at e
def VP(v w)(d:v.O.size<=maxLen) :
  Ca 256 #[.agg #[I6 v.w,I6 v.num,.string v.O]] w λe w'=>
   e=.returned (.bool (Dk v))/\Bw w w':=by
 obtain⟨G⟩:Nonempty (Hid (Dk v=((v.w==0&&v.O.toList.isEmpty)||(v.w==1&&(v.num==0&&AP v.O.data.toList))))):=⟨rfl⟩
 have g:=LP v.O (w.alloc (.cells #[I6 v.w,I6 v.num,.string v.O] 187)) d;have c:Hid ((v.w==0)=true->(v.w==1)=false):=λh=>by simp at h;simp[h]
 cases a:(v.w==0)<;>cases f:v.O.toList.isEmpty<;>cases b:(v.w==1)<;>cases i:(v.num==0)
 all_goals
  first
  |(exfalso;have:=c a;rw[b]at this;cases this;done)
  | (go_enter func256,ntmps256
     go_wp2_with (go_at_call 197;refine g.j ?_;rintro e w' ⟨rfl,rfl⟩);go_ret;exact⟨Ba (by rw[G.o,a,f,b,i];simp),Ar⟩)
def zgS(t w)(d:t.le maxLen) :
  Ca 273 #[.agg #[I6 t.w,I6 t.op,.string t.F,I6 t.val.w,I6 t.val.num,.string t.val.O]] w λe w'=>
   e=.returned (.bool (Ng t))/\Bw w w':=by
 obtain⟨a,O⟩:=d;obtain⟨G⟩:Nonempty (Hid (Ng t=((t.F.toList.isEmpty&&Dk t.val)||(AP t.F.data.toList&&E4 t.val)))):=⟨rfl⟩
 cases h1:t.F.toList.isEmpty
 .cases b:AP t.F.data.toList
  .go_enter func273,ntmps273;go_wp2_with (go_at_call 197;refine(LP t.F _ a).j ?_;rintro e w' ⟨rfl,rfl⟩);go_ret;exact⟨Ba (by rw[G.o,h1,b];rfl),Ar⟩
  go_enter func273,ntmps273;go_wp2_with (go_at_call 197;refine(LP t.F _ a).j ?_;rintro e w' ⟨rfl,rfl⟩)
  all_goals go_ret
  all_goals exact⟨Ba (by rw[G.o,h1,b];simp[E4,DA, *]),Ar⟩
 have b:AP t.F.data.toList=false:=VD (by
  have:t.F.toList=[]:=qx;rw[<-W6,this];rfl)
 go_enter func273,ntmps273;go_wp2_with (go_at_call 256;refine(VP t.val _ O).rtn λw' c=>?_);go_ret;exact⟨Ba (by rw[G.o,h1,b];simp),Ar.thn c⟩
def pI:Ui.toList=[110,111,116]:=by rw[W6];rfl
def VU(s w)(b:s.size<=maxLen) :
  Ca 248 #[.string s] w λe w'=>e=.returned (.bool (DS s))/\w'=w:=by
 cases a:AP s.data.toList
 all_goals
  go_enter func248,ntmps248;go_wp2_with (go_at_call 197;refine(LP s _ b).j ?_;rintro e w' ⟨rfl,rfl⟩);go_ret
 .exact⟨Ba (by simp[DS,a]),rfl⟩
 exact⟨Ba (by rw[DS,a,<-Gu,pI];rfl),rfl⟩
def tD(h:P:=by go_enter func249,ntmps249;go_wp2;go_ret;exact⟨Ba (by simp[DC,DA, *]),Ar⟩):=h
def ik(h:P:=by go_enter func249,ntmps249;go_wp2;go_ret;exact⟨Ba (by rw[O.o]),Ar⟩):=h
def Xg(h:P:=by go_enter func249,ntmps249;go_wp2;go_ret;exact⟨Ba (by simp[DC,E4,DA, *]),Ar⟩):=h
def zjM(t w)(g:t.le maxLen) :
  Ca 249 #[.agg #[I6 t.w,I6 t.op,.string t.F,I6 t.val.w,I6 t.val.num,.string t.val.O]] w λe w'=>
   e=.returned (.bool (DC t))/\Bw w w':=by
 have q:=g;obtain⟨c,p⟩:=g;by_cases m:t.w=0
 .go_enter func249,ntmps249;go_wp2
  all_goals go_ret
  all_goals exact⟨Ba (by simp[DC,E4,DA, *]),Ar⟩
 by_cases n:t.w=1
 .by_cases l:t.op=0
  .by_cases s:t.F.toList=[]
   .go_enter func249,ntmps249;go_wp2_with (go_at_call 256;refine(VP t.val _ p).rtn λw' a=>?_);go_ret;exact⟨Ba (by simp[DC,DA, *]),Ar.thn a⟩
   exact tD
  exact tD
 by_cases k:t.w=2
 .by_cases l:t.op=0
  .by_cases u:t.val.w=0
   .by_cases v:t.val.num=0
    .by_cases r:t.val.O.toList=[]
     .go_enter func249,ntmps249;go_wp2_with (go_at_call 197;refine(LP t.F _ c).j ?_;rintro e w' ⟨rfl,rfl⟩);go_ret;exact⟨Ba (by simp[DC,E4,DA, *]),Ar⟩
     exact Xg
    exact Xg
   exact Xg
  exact Xg
 by_cases b:t.w=3
 .by_cases d:1<=t.op
  .by_cases i:t.op<=6
   .have O:Hid (DC t=Ng t):=show DC t=Ng t from by simp[DC,b,d,i]
    have f:=λw=>zgS t w q;simp only[b]at f;go_enter func249,ntmps249;go_wp2_with (go_at_call 273;refine(f _).rtn λw' a=>?_);go_ret;exact⟨Ba O.z,Ar.thn a⟩
   have O:Hid (DC t=false):=show DC t=false from by simp[DC,b,i]
   exact ik
  have O:Hid (DC t=false):=show DC t=false from by simp[DC,b,d]
  exact ik
 have O:Hid (DC t=false):=show DC t=false from by simp[DC,m,n,k,b]
 exact ik
def uq(h:P:=by
 obtain⟨G⟩:Nonempty (Hid (Ej x=(DS x.E&&(decide (x.s.length<=6)&&x.s.all DC)))):=⟨rfl⟩
 cases hg:DS x.E
 .first
   | (have _:=tP
      go_enter func198,ntmps198;go_wp2_with (go_at_call 248;refine(VU x.E _ hc).j ?_;rintro e w' ⟨rfl,rfl⟩))
   | (go_enter func233,ntmps233
      go_wp2_with (go_at_call 265;refine(Nt x.E _ hc).j ?_;rintro e w' ⟨rfl,rfl⟩))
  go_ret;exact⟨Ba (by rw[G.o,hg];rfl),Ar⟩
 by_cases h6:6<x.s.length
 .have aj:=Hk h6
  first
   | (have _:=tP
      go_enter func198,ntmps198;go_wp2_with (go_at_call 248;refine(VU x.E _ hc).j ?_;rintro e w' ⟨rfl,rfl⟩))
   | (go_enter func233,ntmps233
      go_wp2_with (go_at_call 265;refine(Nt x.E _ hc).j ?_;rintro e w' ⟨rfl,rfl⟩))
  go_ret;exact⟨Ba (by rw[G.o,hg,decide_eq_false (by omega)];rfl),Ar⟩
 .have aj:=FN h6
  first
   | (have _:=tP
      go_enter func198,ntmps198;go_wp2_with (go_at_call 248;refine(VU x.E _ hc).j ?_;rintro e w' ⟨rfl,rfl⟩))
   | (go_enter func233,ntmps233
      go_wp2_with (go_at_call 265;refine(Nt x.E _ hc).j ?_;rintro e w' ⟨rfl,rfl⟩))
  go_loopw [18] (λi wr=>∃(k:Nat),k<=x.s.length/\i=I6 k/\Ej x=(x.s.drop k).all DC/\Bw w wr) (mz x.s.length)
  .exact⟨0,by omega,rfl,by rw[G.o,hg,decide_eq_true (by omega)];rfl,Ar⟩
  obtain⟨k,hk,rfl,hG,hb⟩:=hrel;have HG:Hid (Ej x=(x.s.drop k).all DC):=hG;clear hG;by_cases ai:k<x.s.length
  .obtain⟨t,O⟩:=Bq ai;obtain⟨b,o,rfl,hq,c0,c1,c2,c3,c4,c5⟩:=(hv.e hb).get O;have af:=hs.2 t (yd O);have HD:Hid (x.s.drop k=t::x.s.drop (k+1)):=Dx O;have B1:∀o,Bw w (wr.alloc o):=λo=>hb.alloc hb.size _;cases ah:DC t
   first
    | (have _:=tP
       all_goals
         go_wp2_with (go_at_call 249;refine(zjM t _ af).rtn λw' hb'=>?_))
    | (all_goals
         go_wp2_with (go_at_call 266;refine(zik t _ af).rtn λw' hb'=>?_))
   .go_ret;exact⟨Ba (by rw[HG.o,HD.o,YR,ah];rfl),(B1 _).c (hb'.j (B1 _).size)⟩
   go_roundw
   case rel=>exact⟨k+1,by omega,by go_num,by rw[HG.o,HD.o,YR,ah];rfl,(B1 _).c (hb'.j (B1 _).size)⟩
   case measure=>(simp;omega)
  exact TQ
 ):=h
def rj(x a c){q}(w)(hv:Gs q w a x.s)(hc:x.E.size<=maxLen)(hs:FD Tm.le maxLen x.s)(hl:x.s.length<=1048576) :
  Ca 198 #[.agg #[.bool x.neg,.string x.E,.slice a x.s.length c]] w λe w'=>
   e=.returned (.bool (Ej x))/\Bw w w':=by
 have tP:=trivial;exact uq
end Go.Proofs.YtikojfajahnhgaaGreat
