import Derived.Test.YtikojfajahnhgaaGreatKah
import Derived.Test.YtikojfajahnhgaaGreatKag
import Derived.Test.YtikojfajahnhgaaGreatKac
set_option linter.all false
set_option maxHeartbeats 1600000
namespace Go.Proofs.YtikojfajahnhgaaGreat
attribute [local simp] At I6 Pn mzI
attribute [local go_sem] At I6 Pn
open Go.RowKit Go.Proofs.Tryz
attribute [local go_sem ↓] wp_at_zero wp_at_succ
def Aa{p}(h:p):Hid p:=h
def lz(e a c S){q}(w)(hv:Gv q w a S)(hl:S.length<=60)(m:e.le maxLen)(u:0<=e.op)(n:e.op<256)(hd:∀(i:Nat)(s:Sp),S[i]?=some s->s.1<=i/\s.2<=20) :
  Ca 250 #[.agg #[I6 e.kind,.int .u8 e.op,.string e.var,I6 e.val.kind,I6 e.val.num,.string e.val.av,I6 e.a,I6 e.b],.slice a S.length c] w λr w'=>
   (∃f d:Int,r=.returned (.tuple #[.agg #[I6 f,I6 d],.bool (Bv S e).isSome])/\∀s,Bv S e=some s->f=(s.1:Int)/\d=(s.2:Int))/\Bw w w':=by
 by_cases j:e.kind=0
 .have O:Bv S e=if CQ e&&(BT e.var&&Bu e.val) then some (S.length,0) else none:=by simp[Bv,j]
  refine(zoV e a c S w m j).ac ?_;rintro r w' ⟨rfl,k⟩;rw[O];refine⟨⟨S.length,0,?_,?_⟩,k⟩
  .cases CQ e&&(BT e.var&&Bu e.val)<;>rfl
  intro s h;exact XM
 by_cases l:e.kind=1
 .have O:Bv S e=if CQ e&&(Aw e.var.data.toList&&Cr e.val) then some (S.length,0) else none:=by simp[Bv,l]
  refine(wB e a c S w m l).ac ?_;rintro r w' ⟨rfl,k⟩;rw[O];refine⟨⟨S.length,0,?_,?_⟩,k⟩
  .cases CQ e&&(Aw e.var.data.toList&&Cr e.val)<;>rfl
  intro s h;exact XM
 by_cases g:e.kind=2
 .have Y:=λw h=>zhy e a c S (q:=q) w h hl g u n hd;simp only[g]at Y;have x:=Aa Y;clear Y;go_enter func250,ntmps250;go_wp2_with (go_at_call 274;refine(x.o _ (hv.J Ba)).ac ?_;rintro A w' ⟨⟨f,d,rfl,t⟩,hb'⟩;have p:At w' (w.heap.size+1) 0 (I6 0):=zab hb' qk;have y:At w' (w.heap.size+1) 1 (I6 0):=zab hb' qk;have B:w'.frozen? ⟨w.heap.size+1,0,none⟩=false:=qG;have C:w'.frozen? ⟨w.heap.size+1,1,none⟩=false:=qG);have z:Bw w w':=Ba.aj hb';refine bodyPost_ret (v:=.tuple #[.agg #[I6 f,I6 d],.bool (Bv S e).isSome]) (by simp[results,results250,go_sem,p,y]) rfl ⟨⟨f,d,rfl,t⟩,(z.setCell qe _).setCell qe _⟩
 have HN:Hid (Bv S e=none):=show Bv S e=none from by simp[Bv,j,l,g]
 go_enter func250,ntmps250;go_wp2;refine bodyPost_ret (v:=.tuple #[.agg #[I6 0,I6 0],.bool false]) (by simp[results,results250,go_sem]) rfl ⟨⟨0,0,OW,λs h=>(by rw[HN.o]at h;cases h)⟩,Ba⟩
def Hx(s:Sp):List Value:=[.int .i64 (s.1:Int),.int .i64 (s.2:Int)]
def jI:∀(S:List Sp)(i:Nat)(s:Sp),S[i]?=some s->(S.flatMap Hx)[i*2]?=some (I6 (s.1:Int))/\(S.flatMap Hx)[i*2+1]?=some (I6 (s.2:Int))
 |[],i,s,h=>by simp at h
 |x::r,0,s,h=>by
  simp at h
  subst h
  exact⟨rfl,rfl⟩
 |x::r,i+1,s,h=>by
  have:=jI r i s qq
  rw[yE]
  refine⟨?_,?_⟩
  .rw[yF (by simp[Hx];omega),show(i+1)*2-(Hx x).length=i*2 by simp[Hx];omega]
   exact this.1
  rw[yF (by simp[Hx];omega),show(i+1)*2+1-(Hx x).length=i*2+1 by simp[Hx];omega]
  exact this.2
def Gv.owns{w base n a c S}(h:w.ownsRow base 375 2 (.slice a n c) n (S.flatMap Hx)):Gv none w a S:=by
 intro i s d;obtain⟨Y,e⟩:=jI S i s d;obtain⟨g,rfl,_,b,_⟩:=CC h Y;obtain⟨k,O,_,f,_⟩:=CC h e;cases O;refine⟨g,0,[I6 (s.1:Int),I6 (s.2:Int)],rfl,Qb.bare _ _ _,rfl,?_,rfl⟩;intro j v hj;rw[Yt]
 match j,hj with
 |0,hj=>simp at hj;subst hj;exact b
 |1,hj=>simp at hj;subst hj;exact f
def rx:(prog.info? 375).map (λi=>(i.zero,i.size,i.bytes))=some (some (.agg #[I6 0,I6 0]),2,16):=qf
def OK(w:World)(L:List Value)(t a)(e:some (⟨w.heap.size,0,none⟩:Addr)=some a)(j u)(h:L[j]?=some u):(w.alloc (.cells L.toArray t)).cell? (a.add j)=some u:=by
 cases e
 rw[YZ,Yt];have b:=heap_alloc_new w (.cells L.toArray t);simp only[World.cell?,b];simpa using h
def Et(w:World)(L:List Value)(t b)(c:b=w.heap.size)(a)(e:some (⟨b,0,none⟩:Addr)=some a)(j u)(h:L[j]?=some u):(w.alloc (.cells L.toArray t)).cell? (a.add j)=some u:=by
 subst c;exact OK w L t a e j u h
def Bg{w w' base e size v n xs}(h:w.ownsRow base e size v n xs)(b:Bw w w'):w'.ownsRow base e size v n xs:=
 BZ h (λg a=>b.block g (h.lt g a).2)
def znb(s):∀u∈Hx s,u.oneCell'=true:=by
 intro u hu;simp[Hx]at hu;rcases hu with rfl|rfl<;>rfl
def GW(es:List Ex):Prop:=∀e∈es,0<=e.op/\e.op<256
def jp(x:Ru)(r m g l p n){q}(w)(k:BP q w g x.exprs)(hl:x.exprs.length<=60)(W:CP Ex.le maxLen x.exprs)(ho:GW x.exprs) :
  Ca 199 #[.agg #[.string x.name,.int .i64 x.aH,.slice r x.af.length m,.slice g x.exprs.length l,.slice p x.ao.length n]] w λe w'=>
   (∃a c,e=.returned (.tuple #[.slice a (B_ [] x.exprs).length c,.bool (decide ((B_ [] x.exprs).length=x.exprs.length))])/\Gv none w' a (B_ [] x.exprs))/\Bw w w':=by
 go_enter func199,ntmps199;go_wp2
 go_loopw [4,12] (λv i wr=>∃(S:List Sp)(a:Option Addr)(c:Nat),S.length<=x.exprs.length/\i=.int .i64 (S.length:Int)/\v=.slice a S.length c/\AY x.exprs S/\B_ [] x.exprs=B_ S (x.exprs.drop S.length)/\wr.ownsRow w.heap.size 375 2 (.slice a S.length c) S.length (S.flatMap Hx)/\Bw w wr) (λ_ i _=>x.exprs.length-(intOf i).toNat)
 case atStart=>exact⟨[],none,0,qe,rfl,rfl,AY.nil _,rfl,y9 _ _ _ _,Af⟩
 case round=>
  obtain⟨S,a,c,hk,rfl,rfl,hS,L,t,C⟩:=hrel;have HG:Hid (B_ [] x.exprs=B_ S (x.exprs.drop S.length)):=L;have B:=Aa t;clear L t;by_cases U:S.length<x.exprs.length
  .obtain⟨e,A⟩:∃e,x.exprs[S.length]?=some e:=⟨x.exprs[S.length],by simp[U]⟩
   obtain⟨b,o,rfl,hq,c0,c1,c2,c3,c4,c5,c6,c7⟩:=(k.J C).get A;have I:Hid (x.exprs.drop S.length=e::x.exprs.drop (S.length+1)):=Ck A;have M:=W.2 e (yd A);obtain⟨K,Y⟩:=ho e (yd A);have hd:Hid (∀(i:Nat)(s:Sp),S[i]?=some s->s.1<=i/\s.2<=20):=show∀(i:Nat)(s:Sp),S[i]?=some s->s.1<=i/\s.2<=20 fromλi s h=>⟨hS.bn i s h,hS.aZ i s h⟩
   have N:=Aa hS;clear hS;cases D:Bv S e with
   |none=>
    have u:Hid (B_ [] x.exprs=S):=show B_ [] x.exprs=S from by rw[HG.o,I.o,B_,D]
    go_wp2_with (go_at_call 250;refine(lz e a c S _ ((Gv.owns B.o).J Af) qd M K Y hd.o).ac ?_;rintro Z y ⟨⟨f,d,rfl,H⟩,E⟩);have O:Bw wr y:=Af.aj E;have z:Bw w y:=C.aj O;refine bodyPost_ret (v:=.tuple #[.slice a S.length c,.bool false]) (by simp[results,results199,go_sem]) rfl ⟨⟨a,c,by rw[u.o,decide_eq_false qd],?_⟩,z.alloc z.size _⟩;rw[u.o];exact((Gv.owns B.o).J O).J Af
   |some s=>
    have u:Hid (B_ [] x.exprs=B_ (S++[s]) (x.exprs.drop (S.length+1))):=show B_ [] x.exprs=_ from by rw[HG.o,I.o,B_,D]
    go_wp2_with (first|(go_at_call 250;refine(lz e a c S _ ((Gv.owns B.o).J Af) qd M K Y hd.o).ac ?_;rintro Z y ⟨⟨f,d,rfl,H⟩,E⟩;obtain⟨rfl,rfl⟩:=H s D;have O:Bw wr y:=Af.aj E;have Y:=Aa (Bg B.o O))|(at_builtin;refine EU qi (.tmp 25) (.tmp 27) 310 qi w.heap.size 375 _ 2 16 underlying310 rx qi qd _ S.length _ qi ((Y.o.alloc _).alloc _) (some ⟨y.heap.size+1,0,none⟩) 1 1 qi (Hx s) qi (λe=>qp) (Et _ _ _ _ qe) (znb s) qm qd (by have h1:=C.size;have h2:=O.size;simp;omega) ?_;intro R T w2 au aq aw));have z:Bw w y:=C.aj O;have G:=z.size;go_roundw
    case rel=>
     refine⟨S++[s],R,T,qg,qe,qe,N.o.snoc A D,?_,?_,?_⟩
     .rw[u.o];simp
     .have:=au.o;rw[Yu];simpa[Hx] using this
     .exact((z.alloc G _).alloc qg _).grown aq.o qg (λj hj=>(Y.o.lt j hj).1)
    case measure=>simp[intOf];omega
  go_wp2;have u:Hid (B_ [] x.exprs=S):=show B_ [] x.exprs=S from by
   exact Qr
  refine bodyPost_ret (v:=.tuple #[.slice a S.length c,.bool true]) (by simp[results,results199,go_sem]) rfl ⟨⟨a,c,by rw[u.o,decide_eq_true qd],?_⟩,C⟩;rw[u.o];exact Gv.owns B.o
end Go.Proofs.YtikojfajahnhgaaGreat
