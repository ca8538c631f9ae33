import Derived.Test.YtikojfajahnhgaaGreatKag
set_option linter.all false
namespace Go.Proofs.YtikojfajahnhgaaGreat
attribute [local simp] At I6 Pn mzI
attribute [local go_sem] At I6 Pn
open Go.RowKit Go.Proofs.Tryz
def Qb(q:Option Nat)(w:World)(t:TypeId)(b:Nat):Prop:=∀B,q=some B->B<=b/\∃c,w.heap[b]?=some (.cells c t (0,0))
def GX(B:Nat)(w w':World):Prop:=∀b,B<=b->w'.heap[b]?=w.heap[b]?
def GX.refl(B w):GX B w w:=λ_ _=>rfl
def GX.c{B w w' O}(h:GX B w w')(d:GX B w' O):GX B w O:=λb a=>(d b a).c (h b a)
def GX.setCell{B g i w}(a:g<B)(x):GX B w (w.setCell ⟨g,i,none⟩ x):=λb c=>yE _ _ _ _ qf
def GX.setCells{B g}(a:g<B):∀(vs:List Value)(o:Nat)(w:World),GX B w (w.setCells g o vs)
 |[],_,_=>GX.refl _ _
 |v::r,o,_=>(GX.setCell a v).c (GX.setCells a r (o+1) _)
def Qb.ah(w t b):Qb none w t b:=λB h=>by cases h
def Qb.d{q w w' t b}(h:Qb q w t b)(f:Bw w w'):Qb q w' t b:=by
 cases q with
 |none=>exact Qb.ah _ _ _
 |some B=>
  intro O e;obtain⟨g,c,a⟩:=h O e;exact⟨g,c,(f.block b (Ak a)).c a⟩
section
variable {α : Type}
def Cr(R:World->List Value->α->Prop)(q:Option Nat)(t:TypeId)(m:Nat)(w:World)(a:Option Addr)(xs:List α):Prop:=
 ∀(i:Nat)(x:α),xs[i]?=some x->∃b o r,a=some ⟨b,o,none⟩/\Qb q w t b/\r.length=m/\(∀j v,r[j]?=some v->w.cell? ⟨b,o+i*m+j,none⟩=some v)/\R w r x
variable {R R' : World -> List Value -> α -> Prop} {q q' : Option Nat} {t : TypeId} {m : Nat} {w w' : World} {a : Option Addr} {xs : List α}
def Cr.nil:Cr R q t m w a ([]:List α):=λi x h=>by simp at h
def Cr.d(h:Cr R q t m w a xs)(k:∀r x,x∈xs->R w r x->R w' r x)(c:Bw w w'):Cr R q t m w' a xs:=by
 intro i x e;obtain⟨b,o,r,n,f,l,g,p⟩:=h i x e;exact⟨b,o,r,n,f.d c,l,λj v hj=>zab c (g j v hj),k r x (yd e) p⟩
def Cr.bV(h:Cr R q t m w a xs)(k:∀b,Qb q w t b->Qb q' w t b)(f:∀r x,x∈xs->R w r x->R' w r x):Cr R' q' t m w a xs:=by
 intro i x c;obtain⟨b,o,r,j,d,g,e,l⟩:=h i x c;exact⟨b,o,r,j,k b d,g,e,f r x (yd c) l⟩
def Cr.drop(h:Cr R q t m w a xs){b o k}(O:a=some ⟨b,o,none⟩):Cr R q t m w (some ⟨b,o+k*m,none⟩) (xs.drop k):=by
 intro i x d;rw[WW]at d;obtain⟨s,o',r,c,e,g,f,p⟩:=h (k+i) x d;rw[O]at c;injection c with c;injection c with n l _;subst n l;refine⟨b,o+k*m,r,rfl,e,g,λj v hj=>?_,p⟩;have:=f j v hj;rwa [show o+(k+i)*m+j=o+k*m+i*m+j by rw[KY];omega]at this
def Cr.take(h:Cr R q t m w a xs)(k):Cr R q t m w a (xs.take k):=by
 intro i x b;rw[YC]at b;split at b
 .exact h i x b
 cases b
def IK(R:World->List Value->α->Prop)(t:TypeId)(m:Nat)(w:World)(g N:Nat)(xs:List α):Prop:=
 ∃rows,Bq w g t m N rows/\rows.length=xs.length/\∀(i:Nat)(x:α)(r:List Value),xs[i]?=some x->rows[i]?=some r->R w r x
def IK.lt{g N}(h:IK R t m w g N xs):g<w.heap.size:=by
 obtain⟨_,h,_⟩:=h;exact h.lt
def IK.at{g N B}(h:IK R t m w g N xs)(p:B<=g):Cr R (some B) t m w (some ⟨g,0,none⟩) xs:=by
 obtain⟨rows,O,hl,l⟩:=h;intro i x f;have o:i<rows.length:=by rw[hl];exact(ye.1 f).1
 have a:rows[i]?=some rows[i]:=yH o;obtain⟨c,d,k,n,b⟩:=O;refine⟨g,0,rows[i],rfl,?_,(b i _ a).1,?_,l i x _ f a⟩
 .intro q e;injection e with e;subst e;exact⟨p,c,d⟩
 intro j v hj;rw[Yc];exact Bq.cell ⟨c,d,k,n,b⟩ a hj
def IK.d{g N}(h:IK R t m w g N xs)(c:∀r x,x∈xs->R w r x->R w' r x)(e:Bw w w'):IK R t m w' g N xs:=by
 obtain⟨rows,O,hl,h⟩:=h;exact⟨rows,O.d e O.lt,hl,λi x r a b=>c r x (yd a) (h i x r a b)⟩
def IK.room{g N k}(h:IK R t m w g N xs)(a:k<N)(j)(hj:j<m):∃x,At w g (k*m+j) x:=by
 obtain⟨rows,O,_⟩:=h;exact O.there a hj
def IK.put{g N k x r}(h:IK R t m w g N xs)(l:xs.length=k)(n:k<N)(f:r.length=m)(e:R w r x)(c:∀s y,(y∈xs∨y=x)->R w s y->R (w.setCells g (k*m) r) s y):IK R t m (w.setCells g (k*m) r) g N (xs++[x]):=by
 obtain⟨rows,j,hl,h⟩:=h;refine⟨rows++[r],?_,JZ,?_⟩
 .have:=j.put r f qd;rwa [show rows.length=k by omega]at this
 intro i y s a b;by_cases d:i<xs.length
 .rw[yr d]at a;rw[yr qd]at b;exact c _ _ (.inl (yd a)) (h i y s a b)
 have O:i<(xs++[x]).length:=(ye.1 a).1;simp at O;obtain rfl:i=xs.length:=qd;simp at a;rw[yx qd]at b;simp[hl]at b;subst a b;exact c _ _ (.inr rfl) e
end
def EW{α:Type}(le:Nat->α->Prop)(N:Nat)(xs:List α):Prop:=xs.length<=N/\∀x∈xs,le N x
end Go.Proofs.YtikojfajahnhgaaGreat
