import Derived.Test.YtikojfajahnhgaaGreatKbn
import Derived.Test.YtikojfajahnhgaaGreatKbu
set_option linter.all false
set_option maxRecDepth 100000
namespace Go.Proofs.YtikojfajahnhgaaGreat
attribute [local simp] At I6 Pn mzI
attribute [local go_sem] At I6 Pn
open Go.RowKit Go.Proofs.Tryz
section
open Go.Maps
def Bp.et{w base a n c fs xs}(h:Bp w base (.slice a n c) n fs xs):Fk w a fs:=λi f d=>by
 obtain⟨b,o,e,I,J,sa,t,E,u⟩:=h.at i f d;refine⟨b,o,e,⟨⟨b,o+i*3,rfl,I,J,sa,t,E,u⟩,λM Y=>?_,λp D s H K L A y=>?_⟩⟩
 .injection Y with Y;subst Y;have l:(Value.slice a n c).ownBlock=some b:=by rw[e];rfl
  obtain⟨cs,O⟩:=A8 h.own l;exact⟨cs,O⟩
 have v:=(yf.1 d).1;obtain⟨x,q⟩:∃x,xs[i]?=some x:=⟨xs[i]'(by rw[h.len];exact v),qe⟩
 obtain⟨⟨G,m,rfl⟩,C⟩:=h.each i f x d q;have g:some (Value.slice p D s)=some (.slice G f.ad.length m):=by
  rw[<-H];obtain⟨k,r,_,z,_⟩:=CC h.own ((Ov fs xs h.len i f _ d q 2 qd).j rfl);rw[e]at r;cases r;simpa using z
 injection g with g;injection g with B _ _;subst B;have l:(Value.slice p f.ad.length m).ownBlock=some K:=by rw[A];rfl
 obtain⟨cs,O⟩:=A8 C l;exact⟨cs,_,O⟩
end
section
open Go.Maps
attribute [local go_sem ↓] wp_at_zero wp_at_succ
set_option maxHeartbeats 1600000 in
def xu(k tag d sa n f a m c nx cp sg w)(h1:k≠1)(h2:k≠2)(h3:k≠3) :
  Ca 45 #[.agg #[I6 k,I6 tag,.string d,.slice sa n f],.agg #[.slice a m c,I6 nx,I6 cp,.bool sg]] w λe w'=>
   (∃p q xs,e=.returned (C6.bad.val p q)/\Bp w' w.heap.size (.slice p C6.bad.fs.length q) C6.bad.fs.length C6.bad.fs xs)/\Bw w w':=by
 have u:(k==1)=false:=qt;have H:(k==2)=false:=qv;have N:(k==3)=false:=Nt;clear h1 h2 h3;go_enter func45,ntmps45;go_upto_region 1 with fail;refine Bt ?_;intro i g Y;have s:Bw w i:=(((Yw w.heap.size w).alloc AA _).alloc qe _).j (g.ac qg);have r:w.heap.size<=(w.alloc (.cells #[I6 k,I6 tag,.string d,.slice sa n f] 40)).heap.size:=qe;have K:At i w.heap.size 0 (I6 k):=by
  have t:(w.alloc (.cells #[I6 k,I6 tag,.string d,.slice sa n f] 40)).heap[w.heap.size]?=some (.cells #[I6 k,I6 tag,.string d,.slice sa n f] 40 (0,0)):=heap_alloc_new w _;have h1:i.heap[w.heap.size]?=some (.cells #[I6 k,I6 tag,.string d,.slice sa n f] 40 (0,0)):=(g.block _ qg).j ((yV _ _ _ qe).j t);exact AF (L:=[_,_,_,_]) h1 (j:=0) rfl
 obtain⟨b,l⟩:∃b,b=w.heap.size+1+1:=⟨_,rfl⟩
 have O:w.heap.size<=b:=qd;have o:((w.alloc (.cells #[I6 k,I6 tag,.string d,.slice sa n f] 40)).alloc (.cells #[.slice a m c,I6 nx,I6 cp,.bool sg] 27)).heap.size=b:=by simp[l]
 rw[o]at Y;obtain⟨x0,x1,G,B,W,I,D,x,J,E,C,M,U,R,A,z,T,y⟩:=Nj Y rfl;clear g Y r o;simp only[<-l];clear l;go_wp2_with fail;refine bodyPost_ret (v:=C6.bad.val none 0) (by simp[results,results45,go_sem,C6.val,C6.bad, *]) rfl ⟨⟨none,0,[],rfl,Bp.nil _ _⟩,?_⟩;exact(((((s.setCell O _).setCell O _).setCell O _).setCell O _).setCell O _).setCell O _
end
end Go.Proofs.YtikojfajahnhgaaGreat
