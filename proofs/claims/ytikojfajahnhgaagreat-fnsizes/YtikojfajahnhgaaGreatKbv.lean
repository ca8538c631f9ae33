import Derived.Test.YtikojfajahnhgaaGreatKbu
import Derived.Test.YtikojfajahnhgaaGreatKbn
set_option linter.all false
set_option maxRecDepth 100000
namespace Go.Proofs.YtikojfajahnhgaaGreat
attribute [local simp] At I6 Pn mzI
attribute [local go_sem] At I6 Pn
open Go.RowKit Go.Proofs.Tryz
attribute [local go_sem ↓] wp_at_zero wp_at_succ
def tW:(prog.info? 53).map (λi=>(i.zero,i.size,i.bytes))=some (some (.agg #[.string ⟨#[]⟩,I6 0,.slice none 0 0,.slice none 0 0,.slice none 0 0]),5,96):=qg
set_option maxHeartbeats 3200000 in
def zhh(g most:Nat)(w)(h:DQ w g)(hm:1<=most)(aM:most<=8) :
  Ca 80 #[.pointer (some ⟨g,0,none⟩),.int .i64 (most:Int)] w λe w'=>∃a c M,e=.returned (.slice a (List.length M) c)/\1<=M.length/\M.length<=most/\JA M/\RO w' w.heap.size a c M/\Rs g w w':=by
 have H:=Af h;have W:=h.lt;clear h;have aT:¬(most:Int)=0:=qd;go_enter func80,ntmps80;go_wp2_with fail;refine(Fc g w H.o).j ?_;rintro e w1 ⟨n,aN,rfl,Z⟩;have B:=Af Z;clear Z H;obtain⟨b,s⟩:∃b,b=1+n%most:=⟨_,rfl⟩
 have aj:1+(n:Int)%(most:Int)=(b:Int):=by rw[s];push_cast;rfl
 have aK:=Wz n (show 0<most by omega);have aL:1<=b/\b<=most:=qd;clear s aK;go_wp2_with fail;clear aj
 go_loopw [5,6] (λov m wr=>∃(j:Nat)(a:Option Addr)(c:Nat)(M:List GI),m=.int .i64 (j:Int)/\ov=.slice a M.length c/\M.length+j=b/\JA M/\RO wr w.heap.size a c M/\Rs g w wr) (λ_ m _=>(intOf m).toNat)
 case atStart=>exact⟨b,none,0,[],rfl,rfl,qe,λi x h=>by simp at h,RO.nil _ _,B.o⟩
 case round=>
  obtain⟨j,a,c,M,rfl,rfl,hj,L,I,r⟩:=hrel;have Y:=Af L;clear L;have HJ:=Af hj;have aS:j<=8:=qd;have aP:M.length<=8:=qd;obtain⟨aD,MO,R⟩:=AA (show M.length<=most by omega) I r;have aG:=r.1.rest.size;clear hj I r B;by_cases aE:j=0
  .have aI:1<=M.length:=by have:=HJ.o;omega
   clear HJ;subst aE;go_wp2_with fail;go_ret;exact⟨a,c,M,rfl,aI,aD.o,Y.o,MO.o,R.o⟩
  have aR:(0:Int)<(j:Int):=qd;go_wp2_with fail;refine(ziz g M.length wr R.o.2 qd).j ?_;rintro e G ⟨x,rfl,T,ah,q,O⟩;obtain⟨aC,aF⟩:=Ah T ah;obtain⟨⟨v,pn,D,J⟩,⟨y,en,A,ao⟩,N,t,E,K⟩:=q.di;obtain⟨z,sal,pv,ev,av,pats,es,acts⟩:=x;dsimp only at J ao K;subst J ao K;obtain⟨f,R2,aH⟩:=AA (MO.o.rs O W) (R.o.c O) (q.lower aG);have aO:=O.1.rest.size;have l:=Er G;have TY:=Af (λo k p=>AO (AF f.o.1 (l.o o)) (k:=k) p);clear q O MO R T ah;unfold T0;go_wp2_with (first|(at_builtin;refine CN qi (.tmp 16) (.tmp 21) 24 qi w.heap.size 53 _ 5 96 underlying24 tW qi qd _ M.length _ qi (AF f.o.1 (l.o _)) (some ⟨_,0,none⟩) 1 1 qi (Eb ⟨z,sal,.slice v pn D,.slice y en A,.slice N t E,pats,es,acts⟩) qi (λe=>qo) (Cv _ _ _ _ qe) (by intro u hu;simp[Eb]at hu;rcases hu with rfl|rfl|rfl|rfl|rfl<;>rfl) qj qd qf ?_;intro a9 c9 w9 aJ U aQ)|fail);go_roundw
  case rel=>
   refine⟨j-1,a9,c9,M++[⟨z,sal,.slice v pn D,.slice y en A,.slice N t E,pats,es,acts⟩],?_,qe,O4,Y.o.snoc aC.o aF.o,⟨by simpa using aJ.o,λx d=>?_⟩,(R2.o.C (l.o _)).grown U.o (λk p=>(f.o.1.lt k p).1) W⟩
   .exact Nh
   .have aB:IY G w.heap.size x:=by
     rcases yn.1 d with d|d
     .exact f.o.2 x d
     simp at d;subst d;exact aH.o
    exact(aB.same (Bc.C (l.o _))).same (Bc.grown U.o (TY.o _) qh)
  case measure=>(simp[intOf];omega)
end Go.Proofs.YtikojfajahnhgaaGreat
