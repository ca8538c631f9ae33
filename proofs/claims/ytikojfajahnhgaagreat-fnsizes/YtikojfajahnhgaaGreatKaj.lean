import Derived.Test.YtikojfajahnhgaaGreatKaf
import Derived.Test.YtikojfajahnhgaaGreatKai
set_option linter.all false
namespace Go.Proofs.YtikojfajahnhgaaGreat
attribute [local simp] At I6 Pn mzI
attribute [local go_sem] At I6 Pn
open Go.RowKit Go.Proofs.Tryz
def Ax(xs:List Int):List Value:=xs.map (Value.int .i64)
structure H4(w:World) (base:Nat) (v:Value) (n:Nat) (xss:List (List Int)) (vs:List Value):Prop where
 num:n=xss.length
 len:vs.length=xss.length
 Q:w.ownsRow base 30 1 v n vs
 P:∀(i:Nat)(xs:List Int)(x:Value),xss[i]?=some xs->vs[i]?=some x->(∃a c,x=.slice a xs.length c)/\w.ownsRow base 3 1 x xs.length (Ax xs)
 apart:∀x∈vs,BI v x
 bd:vs.Pairwise BI
def RE(v:Value)(vs:List Value)(g:Nat):Prop:=v.ownBlock=some g∨∃x∈vs,x.ownBlock=some g
def H4.bA{w base v n xss vs}(h:H4 w base v n xss vs){x}(c:x∈vs):∃xs∈xss,w.ownsRow base 3 1 x xs.length (Ax xs):=by
 obtain⟨i,b,rfl⟩:=Wc c;have a:i<xss.length:=by rw[<-h.len];exact b
 exact⟨xss[i],YI a,(h.P i _ _ (yH a) (yH b)).2⟩
def H4.range{w base v n xss vs}(h:H4 w base v n xss vs){g}(a:RE v vs g):base<=g/\g<w.heap.size:=by
 rcases a with a|⟨x,b,a⟩
 .exact h.Q.lt g a
 obtain⟨xs,_,O⟩:=h.bA b;exact O.lt g a
def H4.kept{w w' base v n xss vs}(h:H4 w base v n xss vs)(d:∀g,RE v vs g->w'.heap[g]?=w.heap[g]?):H4 w' base v n xss vs:=
 ⟨h.num,h.len,Bv h.Q (λg a=>d g (.inl a)),λi f x c b=>⟨(h.P i f x c b).1,Bv (h.P i f x c b).2 (λg a=>d g (.inr ⟨x,yd b,a⟩))⟩,h.apart,h.bd⟩
def H4.d{w w' base v n xss vs}(h:H4 w base v n xss vs)(b:Bw w w'):H4 w' base v n xss vs:=
 h.kept λg a=>b.block g (h.range a).2
def H4.nil(w base):H4 w base (.slice none 0 0) 0 [] []:=
 ⟨rfl,rfl,yN _ _ _ _,λi f x hf=>OY,λx hx=>qB,List.Pairwise.nil⟩
def CU.owns{w base n a c xs}(h:w.ownsRow base 3 1 (.slice a n c) n (Ax xs)):CU none w a xs:=by
 intro i s d;have b:(Ax xs)[i]?=some (I6 s):=by simp[Ax,d]
 obtain⟨g,rfl,_,h0,_⟩:=BM h b;refine⟨g,0,[I6 s],rfl,Qb.ah _ _ _,rfl,?_,rfl⟩;exact nV
def RJ(w:World)(a:Option Addr)(xss:List (List Int)):Prop:=
 ∀(i:Nat)(xs:List Int),xss[i]?=some xs->∃b o a' c',a=some ⟨b,o,none⟩/\w.cell? ⟨b,o+i,none⟩=some (.slice a' xs.length c')/\CU none w a' xs
def RJ.d{w w' a xss}(h:RJ w a xss)(c:Bw w w'):RJ w' a xss:=by
 intro i xs k;obtain⟨b,o,f,j,e,l,g⟩:=h i xs k;exact⟨b,o,f,j,e,zab c l,g.d c⟩
def H4.at{w base a n c xss vs}(h:H4 w base (.slice a n c) n xss vs):RJ w a xss:=by
 intro i xs b;have d:i<xss.length:=(ye.1 b).1;have hv:vs[i]?=some (vs[i]'(by rw[h.len];exact d)):=yH _;obtain⟨⟨j,f,e⟩,O⟩:=h.P i xs _ b hv;obtain⟨g,rfl,_,h0,_⟩:=BM h.Q hv;rw[e]at h0 O;exact⟨g,0,j,f,rfl,qD,CU.owns O⟩
structure Bg(b:Option Nat) (w w':World):Prop where
 rest:Below 0 w w'
 block:∀g,g<w.heap.size->b≠some g->w'.heap[g]?=w.heap[g]?
def Bg.refl(b w):Bg b w w:=⟨An,λ_ _ _=>rfl⟩
def Bg.c{b u v w}(h:Bg b u v)(k:Bg b v w):Bg b u w:=
 ⟨h.rest.c k.rest,λg a d=>(k.block g (yg a h.rest.size) d).c (h.block g a d)⟩
def Bg.m{b u v}(h:Bw u v):Bg b u v:=⟨h.j (yk _),λg a _=>h.block g a⟩
def Bg.set{w g o}(x):Bg (some g) w (w.setCell ⟨g,o,none⟩ x):=
 ⟨An.setCell (yk _) _,λh _ a=>yE _ _ _ _ (λe=>a Gx)⟩
def Bg.d{b w w' B}(h:Bg b w w')(c:B<=w.heap.size)(a:∀g,b=some g->B<=g):Below B w w':=
 ⟨h.rest.os,h.rest.tape,h.rest.output,h.rest.size,λk f=>h.block k qd (λe=>by have:=a k e;omega)⟩
end Go.Proofs.YtikojfajahnhgaaGreat
