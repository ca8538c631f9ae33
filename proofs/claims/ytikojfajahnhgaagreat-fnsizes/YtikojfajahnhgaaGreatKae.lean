import Derived.Test.YtikojfajahnhgaaGreatKac
set_option linter.all false
namespace Go.Proofs.YtikojfajahnhgaaGreat
attribute [local simp] At I6 Pn mzI
attribute [local go_sem] At I6 Pn
open Go.RowKit Go.Proofs.Tryz
def Mh{α:Type}(l:List α)(k x)(h:l[k]?=some x):l.take (k+1)=l.take k++[x]:=by
 obtain⟨a,rfl⟩:=ye.1 h;simp_all
def zkf{α β:Type}(f:α->β)(l:List α)(k x)(h:l[k]?=some x):(l.take (k+1)).map f=(l.take k).map f++[f x]:=by
 obtain⟨a,rfl⟩:=ye.1 h;rw[Ka a,yF];rfl
def CF{α:Type}{l:List α}{k x}(h:l[k]?=some x):l.drop k=x::l.drop (k+1):=by
 obtain⟨a,rfl⟩:=ye.1 h;exact Wk a
def Ak{w:World}{g o}(h:w.heap[g]?=some o):g<w.heap.size:=(yj.1 h).1
def Co{w:World}{g i c t a}(h:w.heap[g]?=some (.cells c t a))(x) :
  (w.setCell ⟨g,i,none⟩ x).heap[g]?=some (.cells (c.setIfInBounds i x) t a):=by
 simp[World.setCell,YT,h]
def Zc:∀(vs:List Value)(o:Nat)(w:World)(g:Nat)(c:Array Value)(t:TypeId)(b:Nat × Nat),w.heap[g]?=some (.cells c t b) ->
  ∃a,(w.setCells g o vs).heap[g]?=some (.cells a t b)/\a.size=c.size/\(∀j x,vs[j]?=some x->o+j<c.size->a[o+j]?=some x)/\(∀i,i<o∨o+vs.length<=i->a[i]?=c[i]?)
 |[],o,w,g,c,t,b,h=>⟨c,h,rfl,λj x hj=>by simp at hj,λ_ _=>rfl⟩
 |v::r,o,w,g,c,t,b,h=>by
  obtain⟨a,l,k,f,d⟩:=Zc r (o+1) _ g _ t b (Co (i:=o) h v)
  refine⟨a,l,by rw[k];simp,?_,?_⟩
  .intro j x hj O
   cases j with
   |zero=>
    simp at hj
    subst hj
    rw[KJ,d o (Or.inl (K6 o)),KB]
    simp at O
    simp[O]
   |succ j=>
    have:=f j x QY qf
    rwa [show o+1+j=o+(j+1) by omega]at this
  intro i e
  rw[d i (by simp at e;omega),KB,if_neg (by simp at e;omega)]
def Below.setCells{B a}:∀(vs:List Value)(o:Nat)(w:World)(g:Nat),Below B a w->B<=g->Below B a (w.setCells g o vs)
 |[],_,_,_,h,_=>h
 |v::r,o,_,g,h,hg=>Below.setCells r (o+1) _ g (h.setCell (p:=⟨g,o,none⟩) hg v) hg
def Aw{W a}(c:Bw W a):(∀b o,b<W.heap.size->a.cell? ⟨b,o,none⟩=W.cell? ⟨b,o,none⟩)/\(∀b o,b<W.heap.size->a.frozen? ⟨b,o,none⟩=W.frozen? ⟨b,o,none⟩):=
 ⟨λb o h=>c.cell (p:=⟨b,o,none⟩) h,λb o h=>c.frozen (p:=⟨b,o,none⟩) h⟩
abbrev Kc(u w:World):Prop:=∀b o,b<u.heap.size->w.cell? ⟨b,o,none⟩=u.cell? ⟨b,o,none⟩
def LZ{w:World}{b o:Nat}{v:Value}(h:At w b o v):b<w.heap.size:=yO _ _ h
def Bq(w:World)(g:Nat)(t:TypeId)(m N:Nat)(rs:List (List Value)):Prop:=
 ∃c:Array Value,w.heap[g]?=some (.cells c t (0,0))/\c.size=N*m/\rs.length<=N/\∀i r,rs[i]?=some r->r.length=m/\∀j x,r[j]?=some x->c[i*m+j]?=some x
def Bq.lt{w g t m N rs}(h:Bq w g t m N rs):g<w.heap.size:=by
 obtain⟨c,a,_⟩:=h;exact Ak a
def Bq.bm{w w' g t m N rs}(h:Bq w g t m N rs)(e:w'.heap[g]?=w.heap[g]?):Bq w' g t m N rs:=by
 obtain⟨c,b,a⟩:=h;exact⟨c,e.c b,a⟩
def Bq.d{w w' g B t m N rs}(h:Bq w g t m N rs)(b:Below B w w')(a:g<B):Bq w' g t m N rs:=
 h.bm (b.block g a)
def Bq.cell{w g t m N rs}(h:Bq w g t m N rs){i j r x}(d:rs[i]?=some r)(hj:r[j]?=some x) :
  At w g (i*m+j) x:=by
 obtain⟨c,b,_,_,a⟩:=h;simp[World.cell?,b,(a i r d).2 j x hj]
def Bq.there{w g t m N rs}(h:Bq w g t m N rs){i j}(d:i<N)(hj:j<m):∃x,At w g (i*m+j) x:=by
 obtain⟨c,b,a,_,_⟩:=h;have O:i*m+j<c.size:=by
  rw[a];have:(i+1)*m<=N*m:=Yl m d;rw[Kb]at this;omega
 exact⟨c[i*m+j],by simp[World.cell?,b,O]⟩
def Bq.put{w g t m N rs}(h:Bq w g t m N rs)(r)(l:r.length=m)(o:rs.length<N):Bq (w.setCells g (rs.length*m) r) g t m N (rs++[r]):=by
 obtain⟨c,s,b,A,e⟩:=h;obtain⟨k,v,p,n,d⟩:=Zc r (rs.length*m) w g c t (0,0) s;refine⟨k,v,by rw[p,b],qf,?_⟩;intro i q a;by_cases O:i<rs.length
 .rw[yr O]at a;obtain⟨f,y⟩:=e i q a;refine⟨f,λj x hj=>?_⟩;have z:j<q.length:=(ye.1 hj).1;rw[d _ (Or.inl ?_)]
  .exact y j x hj
  have:(i+1)*m<=rs.length*m:=Yl m O;rw[Kb]at this;omega
 have u:i<(rs++[r]).length:=(ye.1 a).1;simp at u;obtain rfl:i=rs.length:=qd;simp at a;subst a;refine⟨l,λj x hj=>n j x hj ?_⟩;have z:j<r.length:=(ye.1 hj).1;rw[b];have:(rs.length+1)*m<=N*m:=Yl m o;rw[Kb]at this;omega
def Bq.aY{w g t m N rs}(h:Bq w g t m N rs){p}(a:g≠p.block)(x):Bq (w.setCell p x) g t m N rs:=
 h.bm (yE _ _ _ _ a)
def Bq.dS{w g t N k rs}(h:Bq w g t 3 N rs)(a:rs.length=k)(b:k<N)(x y z) :
  Bq (((w.setCell ⟨g,k*3,none⟩ x).setCell ⟨g,k*3+1,none⟩ y).setCell ⟨g,k*3+2,none⟩ z) g t 3 N (rs++[[x,y,z]]):=by
 subst a;exact h.put [x,y,z] rfl b
def Bq.aF(w:World)(z t m N):Bq (w.alloc (.cells (madeCells z (N*m)) t)) w.heap.size t m N []:=
 ⟨_,heap_alloc_new _ _,size_madeCells _ _,yk _,λi r h=>by simp at h⟩
def Bq.alloc{w g t m N rs}(h:Bq w g t m N rs)(o):Bq (w.alloc o) g t m N rs:=
 h.bm (yS _ _ _ h.lt)
end Go.Proofs.YtikojfajahnhgaaGreat
