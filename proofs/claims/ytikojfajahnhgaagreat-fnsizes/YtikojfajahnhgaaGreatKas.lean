import Derived.Test.YtikojfajahnhgaaGreatKar
set_option linter.all false
set_option maxHeartbeats 1600000
set_option maxRecDepth 100000
namespace Go.Proofs.YtikojfajahnhgaaGreat
attribute [local simp] At I6 Pn mzI
attribute [local go_sem] At I6 Pn
open Go.RowKit Go.Lib Go.Proofs.Tryz
attribute [local go_sem ↓] wp_at_zero wp_at_succ
def zhe(s c w) :
  Ca 280 #[.string s,.int .u8 c] w λe w'=>e=.returned (I6 (Lib.indexByte s.data.toList c.toNat.toUInt8))/\w'=w:=by
 go_enter func280,ntmps280;go_wp2;rw[run_callFunc_extern func281 qg qg qg (e:=Extern.BytealgIndexByte.indexByte) qg,Lib.run_indexByteString];simp only[Result.andThen];rw[Zk];go_wp2;exact Mn
def zjE(s c w) :
  Ca 279 #[.string s,.int .u8 c] w λe w'=>e=.returned (I6 (Lib.indexByte s.data.toList c.toNat.toUInt8))/\w'=w:=by
 go_enter func279,ntmps279;go_wp2_with (go_at_call 280;refine(zhe s c _).j ?_;rintro e w' ⟨rfl,rfl⟩);exact Mn
def zoh{c}(O:0<=c)(a:c<256):decide (0<=Lib.indexByte [43,45,42,47,37] c.toNat.toUInt8)=Di c:=by
 have key:∀n:Fin 256,decide (0<=Lib.indexByte [43,45,42,47,37] ((n.val:Nat):Int).toNat.toUInt8)=Di ((n.val:Nat):Int):=Mr;obtain⟨n,rfl⟩:=Yf O;exact key ⟨n,qd⟩
def Zb(c)(O:0<=c)(a:c<256)(w) :
  Ca 278 #[.int .u8 c] w λe w'=>e=.returned (.bool (Di c))/\w'=w:=by
 have H:=zoh O a;have b:Hid (decide (0<=Lib.indexByte [43,45,42,47,37] c.toNat.toUInt8)=Di c):=H;clear H;go_enter func278,ntmps278;go_wp2_with (go_at_call 279;refine(zjE _ c _).j ?_;rintro e w' ⟨rfl,rfl⟩);go_ret;exact⟨AL (by rw[<-b.o]),rfl⟩
def TZ(_:World)(r:List Value)(s:Sp):Prop:=r=[.int .i64 (s.1:Int),.int .i64 (s.2:Int)]
def tZ{w w' r x}(h:TZ w r x):TZ w' r x:=h
abbrev Gs(q:Option Nat)(w:World)(a:Option Addr)(xs:List Sp):Prop:=Cr TZ q 375 2 w a xs
def Gs.d{q w w' a xs}(h:Gs q w a xs)(b:Bw w w'):Gs q w' a xs:=Cr.d h (λ_ _ _ h=>tZ h) b
def Gs.get{q w a xs i x}(h:Gs q w a xs)(j:xs[i]?=some x):∃b o,a=some ⟨b,o,none⟩/\b<w.heap.size/\At w b (o+i*2) (I6 (x.1:Int))/\At w b (o+i*2+1) (I6 (x.2:Int)):=by
 obtain⟨b,o,r,g,k,l,c,d⟩:=h i x j;unfold TZ at d;subst d;have e:=c 0 _ rfl;refine⟨b,o,g,?_,e,c 1 _ rfl⟩;by_cases f:b<w.heap.size
 .exact f
 have:w.heap[b]?=none:=Kd qd;simp[World.cell?,this]at e
def Fk{B n a w}(h:Below B a w):Below B a (w.drewN n):=⟨h.os,h.tape,h.output,h.size,h.block⟩
def Ld{S e}(c:e.u=2):Bl S e=if CC S e then GZ S e.a e.b else none:=by
 simp[Bl,c]
def jf{f}{m x:Nat}(h:m=x):Ending.returned (.tuple #[.agg #[I6 f,I6 (1+(x:Int))],.bool (decide (1+(x:Int)<=20))])=.returned (.tuple #[.agg #[I6 f,I6 ((1+m:Nat):Int)],.bool (decide (1+m<=20))]):=by
 subst h;rw[show((1+m:Nat):Int)=1+(m:Int) by omega,show decide (1+m<=20)=decide (1+(m:Int)<=20) from decide_eq_decide.2 qd]
def zit(e:Ex)(a c S){q}(w)(hv:Gs q w a S)(hl:S.length<=60)(k2:e.u=2)(D:0<=e.op)(y:e.op<256)(M:e.A.toList=[])(z0:e.val.u=0)(z1:e.val.num=0)(N:e.val.J.toList=[])(aE:Di e.op=true)(d O:Nat)(sa sb)(s:e.a=(d:Int))(t:e.b=(O:Int))(l:S[d]?=some sa)(p:S[O]?=some sb)(x:O+1=S.length)(C:d+1=sb.1)(R:sb.2<=20)(aD:sa.2<=20) :
  Ca 274 #[.agg #[I6 e.u,.int .u8 e.op,.string e.A,I6 e.val.u,I6 e.val.num,.string e.val.J,I6 e.a,I6 e.b],.slice a S.length c] w λr w'=>
   r=.returned (.tuple #[.agg #[I6 (sa.1:Int),I6 ((1+max sa.2 sb.2:Nat):Int)],.bool (decide (1+max sa.2 sb.2<=20))])/\Bw w w':=by
 obtain⟨b,o,rfl,aB,c0,U⟩:=hv.get p;obtain⟨E,o',m,z,K,c3⟩:=hv.get l;injection m with m;injection m with g f _;subst g f;have B:d<S.length:=(ye.1 l).1;have G:decide ((O:Int)<0)=false:=decide_eq_false qd;have d1:decide ((d:Int)<0)=false:=decide_eq_false qd;have e1:((O:Int) != (S.length:Int)-1)=false:=by simp;omega
 have e2:((d:Int) != (sb.1:Int)-1)=false:=by simp;omega
 have Y:(O:Int)<(S.length:Int):=qd;have z4:(0:Int)<=(O:Int):=qd;have z5:(d:Int)<(S.length:Int):=qd;have L:(0:Int)<=(d:Int):=qd;have H:b<w.heap.size+1:=qd;have ay:b<w.heap.size+1+1:=qd;have ax:b<w.heap.size+1+1+1:=qd;have T:∀(W:World)(n:Nat),(W.drewN n).heap=W.heap:=λ_ _=>rfl;have I:sb.1<=60:=qd;clear l p hv z x C;rw[t,s];clear t s;go_enter func274,ntmps274;go_wp2_with (go_at_call 278;refine(Zb e.op D y _).j ?_;rintro e' w' ⟨rfl,rfl⟩)
 go_quiet (fail)
 go_wp2;have Z:∀n i k,b<(((w.alloc i).alloc k).drewN n).heap.size:=λn i k=>by
  show b<((w.alloc i).alloc k).heap.size;simp;omega
 go_region
 all_goals go_wp2
 all_goals go_region
 all_goals go_wp2
 all_goals first
  | (refine bodyPost_ret (v:=.tuple #[.agg #[I6 (sa.1:Int),I6 (1+(sb.2:Int))],.bool (decide (1+(sb.2:Int)<=20))]) (by simp[results,results274,go_sem]) rfl ⟨jf (show max sa.2 sb.2=sb.2 by omega),?_⟩
     repeat first|exact AX|refine Fk ?_|refine Below.alloc ?_ qv _|refine WU ?_ qv _)
  | (refine bodyPost_ret (v:=.tuple #[.agg #[I6 (sa.1:Int),I6 (1+(sa.2:Int))],.bool (decide (1+(sa.2:Int)<=20))]) (by simp[results,results274,go_sem]) rfl ⟨jf (show max sa.2 sb.2=sa.2 by omega),?_⟩
     repeat first|exact AX|refine Fk ?_|refine Below.alloc ?_ qv _|refine WU ?_ qv _)
end Go.Proofs.YtikojfajahnhgaaGreat
