import Derived.Test.YtikojfajahnhgaaGreatKav
import Derived.Test.YtikojfajahnhgaaGreatKau
import Derived.Test.YtikojfajahnhgaaGreatKaf
set_option linter.all false
set_option maxHeartbeats 1600000
namespace Go.Proofs.YtikojfajahnhgaaGreat
attribute [local simp] At I6 Pn mzI
attribute [local go_sem] At I6 Pn
open Go.RowKit Go.Proofs.Tryz
attribute [local go_sem ↓] wp_at_zero wp_at_succ
def Aa{p}(h:p):Hid p:=h
def mq(e a c S){q}(w)(hv:Gs q w a S)(hl:S.length<=60)(p:e.le maxLen)(D:0<=e.op)(y:e.op<256)(hd:∀(i:Nat)(s:Sp),S[i]?=some s->s.1<=i/\s.2<=20) :
  Ca 250 #[.agg #[I6 e.u,.int .u8 e.op,.string e.A,I6 e.val.u,I6 e.val.num,.string e.val.J,I6 e.a,I6 e.b],.slice a S.length c] w λr w'=>
   (∃f d:Int,r=.returned (.tuple #[.agg #[I6 f,I6 d],.bool (Bl S e).isSome])/\∀s,Bl S e=some s->f=(s.1:Int)/\d=(s.2:Int))/\Bw w w':=by
 by_cases l:e.u=0
 .have O:Bl S e=if CM e&&(BG e.A&&Bf e.val) then some (S.length,0) else none:=by simp[Bl,l]
  refine(zoE e a c S w p l).j ?_;rintro r w' ⟨rfl,k⟩;rw[O];refine⟨⟨S.length,0,?_,?_⟩,k⟩
  .cases CM e&&(BG e.A&&Bf e.val)<;>rfl
  intro s h;exact Zr
 by_cases m:e.u=1
 .have O:Bl S e=if CM e&&(Aq e.A.data.toList&&Cc e.val) then some (S.length,0) else none:=by simp[Bl,m]
  refine(zoF e a c S w p m).j ?_;rintro r w' ⟨rfl,k⟩;rw[O];refine⟨⟨S.length,0,?_,?_⟩,k⟩
  .cases CM e&&(Aq e.A.data.toList&&Cc e.val)<;>rfl
  intro s h;exact Zr
 by_cases g:e.u=2
 .have n:=λw h=>zh4 e a c S (q:=q) w h hl g D y hd;simp only[g]at n;have B:=Aa n;clear n;go_enter func250,ntmps250;go_wp2_with (go_at_call 274;refine(B.o _ (hv.d Bj)).j ?_;rintro G w' ⟨⟨f,d,rfl,C⟩,hb'⟩;have z:At w' (w.heap.size+1) 0 (I6 0):=zab hb' ql;have t:At w' (w.heap.size+1) 1 (I6 0):=zab hb' ql;have H:w'.frozen? ⟨w.heap.size+1,0,none⟩=false:=qJ;have E:w'.frozen? ⟨w.heap.size+1,1,none⟩=false:=qJ);have x:Bw w w':=Bj.thn hb';refine bodyPost_ret (v:=.tuple #[.agg #[I6 f,I6 d],.bool (Bl S e).isSome]) (by simp[results,results250,go_sem,z,t]) rfl ⟨⟨f,d,rfl,C⟩,(x.setCell qe _).setCell qe _⟩
 have HN:Hid (Bl S e=none):=show Bl S e=none from by simp[Bl,l,m,g]
 go_enter func250,ntmps250;go_wp2;refine bodyPost_ret (v:=.tuple #[.agg #[I6 0,I6 0],.bool false]) (by simp[results,results250,go_sem]) rfl ⟨⟨0,0,OV,λs h=>(by rw[HN.o]at h;cases h)⟩,Bj⟩
def Hs(s:Sp):List Value:=[.int .i64 (s.1:Int),.int .i64 (s.2:Int)]
def kO:∀(S:List Sp)(i:Nat)(s:Sp),S[i]?=some s->(S.flatMap Hs)[i*2]?=some (I6 (s.1:Int))/\(S.flatMap Hs)[i*2+1]?=some (I6 (s.2:Int))
 |[],i,s,h=>by simp at h
 |x::r,0,s,h=>by
  simp at h
  subst h
  exact⟨rfl,rfl⟩
 |x::r,i+1,s,h=>by
  have:=kO r i s qq
  rw[yL]
  refine⟨?_,?_⟩
  .rw[yx (by simp[Hs];omega),show(i+1)*2-(Hs x).length=i*2 by simp[Hs];omega]
   exact this.1
  rw[yx (by simp[Hs];omega),show(i+1)*2+1-(Hs x).length=i*2+1 by simp[Hs];omega]
  exact this.2
def Gs.owns{w base n a c S}(h:w.ownsRow base 375 2 (.slice a n c) n (S.flatMap Hs)):Gs none w a S:=by
 intro i s e;obtain⟨b,f⟩:=kO S i s e;obtain⟨g,rfl,_,k,_⟩:=BM h b;obtain⟨l,O,_,d,_⟩:=BM h f;cases O;refine⟨g,0,[I6 (s.1:Int),I6 (s.2:Int)],rfl,Qb.ah _ _ _,rfl,?_,rfl⟩;intro j v hj;rw[Yc]
 match j,hj with
 |0,hj=>simp at hj;subst hj;exact k
 |1,hj=>simp at hj;subst hj;exact d
def tD:(prog.info? 375).map (λi=>(i.zero,i.size,i.bytes))=some (some (.agg #[I6 0,I6 0]),2,16):=qg
def OG(w:World)(L:List Value)(t a)(e:some (⟨w.heap.size,0,none⟩:Addr)=some a)(j u)(h:L[j]?=some u):(w.alloc (.cells L.toArray t)).cell? (a.add j)=some u:=by
 cases e
 rw[Wl,Yc];have b:=heap_alloc_new w (.cells L.toArray t);simp only[World.cell?,b];simpa using h
def Cv(w:World)(L:List Value)(t b)(c:b=w.heap.size)(a)(e:some (⟨b,0,none⟩:Addr)=some a)(j u)(h:L[j]?=some u):(w.alloc (.cells L.toArray t)).cell? (a.add j)=some u:=by
 subst c;exact OG w L t a e j u h
def AF{w w' base e size v n xs}(h:w.ownsRow base e size v n xs)(b:Bw w w'):w'.ownsRow base e size v n xs:=
 Bv h (λg a=>b.block g (h.lt g a).2)
def zmj(s):∀u∈Hs s,u.oneCell'=true:=by
 intro u hu;simp[Hs]at hu;rcases hu with rfl|rfl<;>rfl
def H_(es:List Ex):Prop:=∀e∈es,0<=e.op/\e.op<256
def kg(x:Ru)(m r g l n p){q}(w)(k:Dt q w g x.w)(hl:x.w.length<=60)(hs:EW Ex.le maxLen x.w)(T:H_ x.w) :
  Ca 199 #[.agg #[.string x.name,.int .i64 x.W,.slice m x.v.length r,.slice g x.w.length l,.slice n x.E.length p]] w λe w'=>
   (∃a c,e=.returned (.tuple #[.slice a (BD [] x.w).length c,.bool (decide ((BD [] x.w).length=x.w.length))])/\Gs none w' a (BD [] x.w))/\Bw w w':=by
 go_enter func199,ntmps199;go_wp2
 go_loopw [4,12] (λv i wr=>∃(S:List Sp)(a:Option Addr)(c:Nat),S.length<=x.w.length/\i=.int .i64 (S.length:Int)/\v=.slice a S.length c/\AU x.w S/\BD [] x.w=BD S (x.w.drop S.length)/\wr.ownsRow w.heap.size 375 2 (.slice a S.length c) S.length (S.flatMap Hs)/\Bw w wr) (λ_ i _=>x.w.length-(intOf i).toNat)
 case atStart=>exact⟨[],none,0,qe,rfl,rfl,AU.nil _,rfl,yN _ _ _ _,Aj⟩
 case round=>
  obtain⟨S,a,c,hk,rfl,rfl,hS,M,t,B⟩:=hrel;have HG:Hid (BD [] x.w=BD S (x.w.drop S.length)):=M;have z:=Aa t;clear M t;by_cases R:S.length<x.w.length
  .obtain⟨e,A⟩:∃e,x.w[S.length]?=some e:=⟨x.w[S.length],by simp[R]⟩
   obtain⟨b,o,rfl,hq,c0,c1,c2,c3,c4,c5,c6,c7⟩:=(k.d B).get A;have L:Hid (x.w.drop S.length=e::x.w.drop (S.length+1)):=CF A;have K:=hs.2 e (yd A);obtain⟨N,C⟩:=T e (yd A);have hd:Hid (∀(i:Nat)(s:Sp),S[i]?=some s->s.1<=i/\s.2<=20):=show∀(i:Nat)(s:Sp),S[i]?=some s->s.1<=i/\s.2<=20 fromλi s h=>⟨hS.aZ i s h,hS.aJ i s h⟩
   have U:=Aa hS;clear hS;cases G:Bl S e with
   |none=>
    have u:Hid (BD [] x.w=S):=show BD [] x.w=S from by rw[HG.o,L.o,BD,G]
    go_wp2_with (go_at_call 250;refine(mq e a c S _ ((Gs.owns z.o).d Aj) qd K N C hd.o).j ?_;rintro e' y ⟨⟨f,d,rfl,J⟩,H⟩);have O:Bw wr y:=Aj.thn H;have D:Bw w y:=B.thn O;refine bodyPost_ret (v:=.tuple #[.slice a S.length c,.bool false]) (by simp[results,results199,go_sem]) rfl ⟨⟨a,c,by rw[u.o,decide_eq_false qd],?_⟩,D.alloc D.size _⟩;rw[u.o];exact((Gs.owns z.o).d O).d Aj
   |some s=>
    have u:Hid (BD [] x.w=BD (S++[s]) (x.w.drop (S.length+1))):=show BD [] x.w=_ from by rw[HG.o,L.o,BD,G]
    go_wp2_with (first|(go_at_call 250;refine(mq e a c S _ ((Gs.owns z.o).d Aj) qd K N C hd.o).j ?_;rintro e' y ⟨⟨f,d,rfl,J⟩,H⟩;obtain⟨rfl,rfl⟩:=J s G;have O:Bw wr y:=Aj.thn H;have C:=Aa (AF z.o O))|(at_builtin;refine CN qi (.tmp 25) (.tmp 27) 310 qi w.heap.size 375 _ 2 16 underlying310 tD qi qd _ S.length _ qi ((C.o.alloc _).alloc _) (some ⟨y.heap.size+1,0,none⟩) 1 1 qi (Hs s) qi (λe=>qo) (Cv _ _ _ _ qe) (zmj s) qj qd (by have h1:=B.size;have h2:=O.size;simp;omega) ?_;intro a2 ax w2 Y Z ay));have D:Bw w y:=B.thn O;have I:=D.size;go_roundw
    case rel=>
     refine⟨S++[s],a2,ax,qf,qe,qe,U.o.snoc A G,?_,?_,?_⟩
     .rw[u.o];simp
     .have:=Y.o;rw[Yr];simpa[Hs] using this
     .exact((D.alloc I _).alloc qf _).grown Z.o qf (λj hj=>(C.o.lt j hj).1)
    case measure=>simp[intOf];omega
  go_wp2;have u:Hid (BD [] x.w=S):=show BD [] x.w=S from by
   exact QK
  refine bodyPost_ret (v:=.tuple #[.slice a S.length c,.bool true]) (by simp[results,results199,go_sem]) rfl ⟨⟨a,c,by rw[u.o,decide_eq_true qd],?_⟩,B⟩;rw[u.o];exact Gs.owns z.o
end Go.Proofs.YtikojfajahnhgaaGreat
