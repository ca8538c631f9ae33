import Derived.Test.YtikojfajahnhgaaGreatKad
set_option linter.all false
set_option maxHeartbeats 1600000
set_option maxRecDepth 100000
namespace Go.Proofs.YtikojfajahnhgaaGreat
attribute [local simp] At I6 Pn mzI
attribute [local go_sem] At I6 Pn
open Go.RowKit Go.Lib Go.Proofs.Tryz
attribute [local go_sem ↓] wp_at_zero wp_at_succ
def zhK(s c w) :
  Ca 280 #[.string s,.int .u8 c] w λe w'=>e=.returned (I6 (Lib.indexByte s.data.toList c.toNat.toUInt8))/\w'=w:=by
 go_enter func280,ntmps280;go_wp2;rw[run_callFunc_extern func281 qf qf qf (e:=Extern.BytealgIndexByte.indexByte) qf,Lib.run_indexByteString];simp only[Result.andThen];rw[Xy];go_wp2;exact Nd
def zkH(s c w) :
  Ca 279 #[.string s,.int .u8 c] w λe w'=>e=.returned (I6 (Lib.indexByte s.data.toList c.toNat.toUInt8))/\w'=w:=by
 go_enter func279,ntmps279;go_wp2_with (go_at_call 280;refine(zhK s c _).ac ?_;rintro e w' ⟨rfl,rfl⟩);exact Nd
def zw{c}(O:0<=c)(a:c<256):decide (0<=Lib.indexByte [43,45,42,47,37] c.toNat.toUInt8)=DY c:=by
 have key:∀n:Fin 256,decide (0<=Lib.indexByte [43,45,42,47,37] ((n.val:Nat):Int).toNat.toUInt8)=DY ((n.val:Nat):Int):=Ns;obtain⟨n,rfl⟩:=Ym O;exact key ⟨n,qd⟩
def Xq(c)(O:0<=c)(a:c<256)(w) :
  Ca 278 #[.int .u8 c] w λe w'=>e=.returned (.bool (DY c))/\w'=w:=by
 have H:=zw O a;have Y:Hid (decide (0<=Lib.indexByte [43,45,42,47,37] c.toNat.toUInt8)=DY c):=H;clear H;go_enter func278,ntmps278;go_wp2_with (go_at_call 279;refine(zkH _ c _).ac ?_;rintro e w' ⟨rfl,rfl⟩);go_ret;exact⟨AE (by rw[<-Y.o]),rfl⟩
def Tl(_:World)(r:List Value)(s:Sp):Prop:=r=[.int .i64 (s.1:Int),.int .i64 (s.2:Int)]
def sS{w w' r x}(h:Tl w r x):Tl w' r x:=h
abbrev Gv(q:Option Nat)(w:World)(a:Option Addr)(xs:List Sp):Prop:=Bq Tl q 375 2 w a xs
def Gv.J{q w w' a xs}(h:Gv q w a xs)(b:Bw w w'):Gv q w' a xs:=Bq.J h (λ_ _ _ h=>sS h) b
def Gv.get{q w a xs i x}(h:Gv q w a xs)(j:xs[i]?=some x):∃b o,a=some ⟨b,o,none⟩/\b<w.heap.size/\At w b (o+i*2) (I6 (x.1:Int))/\At w b (o+i*2+1) (I6 (x.2:Int)):=by
 obtain⟨b,o,r,f,k,l,d,e⟩:=h i x j;unfold Tl at e;subst e;have c:=d 0 _ rfl;refine⟨b,o,f,?_,c,d 1 _ rfl⟩;by_cases g:b<w.heap.size
 .exact g
 have:w.heap[b]?=none:=Kw qd;simp[World.cell?,this]at c
def Fo{B n a w}(h:Below B a w):Below B a (w.drewN n):=⟨h.os,h.tape,h.output,h.size,h.block⟩
def Lg{S e}(c:e.kind=2):Bv S e=if CN S e then Ia S e.a e.b else none:=by
 simp[Bv,c]
def jE{f}{m x:Nat}(h:m=x):Ending.returned (.tuple #[.agg #[I6 f,I6 (1+(x:Int))],.bool (decide (1+(x:Int)<=20))])=.returned (.tuple #[.agg #[I6 f,I6 ((1+m:Nat):Int)],.bool (decide (1+m<=20))]):=by
 subst h;rw[show((1+m:Nat):Int)=1+(m:Int) by omega,show decide (1+m<=20)=decide (1+(m:Int)<=20) from decide_eq_decide.2 qd]
def zin(e:Ex)(a c S){q}(w)(hv:Gv q w a S)(hl:S.length<=60)(k2:e.kind=2)(s:0<=e.op)(z:e.op<256)(G:e.var.toList=[])(z0:e.val.kind=0)(L:e.val.num=0)(R:e.val.av.toList=[])(aC:DY e.op=true)(d O:Nat)(sa sb)(l:e.a=(d:Int))(m:e.b=(O:Int))(Y:S[d]?=some sa)(p:S[O]?=some sb)(u:O+1=S.length)(x:d+1=sb.1)(T:sb.2<=20)(ay:sa.2<=20) :
  Ca 274 #[.agg #[I6 e.kind,.int .u8 e.op,.string e.var,I6 e.val.kind,I6 e.val.num,.string e.val.av,I6 e.a,I6 e.b],.slice a S.length c] w λr w'=>
   r=.returned (.tuple #[.agg #[I6 (sa.1:Int),I6 ((1+max sa.2 sb.2:Nat):Int)],.bool (decide (1+max sa.2 sb.2<=20))])/\Bw w w':=by
 obtain⟨b,o,rfl,I,M,c1⟩:=hv.get p;obtain⟨b',o',j,t,c2,C⟩:=hv.get Y;injection j with j;injection j with g f _;subst g f;have y:d<S.length:=(yf.1 Y).1;have E:decide ((O:Int)<0)=false:=decide_eq_false qd;have K:decide ((d:Int)<0)=false:=decide_eq_false qd;have J:((O:Int) != (S.length:Int)-1)=false:=by simp;omega
 have D:((d:Int) != (sb.1:Int)-1)=false:=by simp;omega
 have N:(O:Int)<(S.length:Int):=qd;have U:(0:Int)<=(O:Int):=qd;have H:(d:Int)<(S.length:Int):=qd;have z6:(0:Int)<=(d:Int):=qd;have aw:b<w.heap.size+1:=qd;have av:b<w.heap.size+1+1:=qd;have Z:b<w.heap.size+1+1+1:=qd;have A:∀(W:World)(n:Nat),(W.drewN n).heap=W.heap:=λ_ _=>rfl;have am:sb.1<=60:=qd;clear Y p hv t u x;rw[m,l];clear m l;go_enter func274,ntmps274;go_wp2_with (go_at_call 278;refine(Xq e.op s z _).ac ?_;rintro B w' ⟨rfl,rfl⟩)
 go_quiet (fail)
 go_wp2;have ax:∀n i k,b<(((w.alloc i).alloc k).drewN n).heap.size:=λn i k=>by
  show b<((w.alloc i).alloc k).heap.size;simp;omega
 go_region
 all_goals go_wp2
 all_goals go_region
 all_goals go_wp2
 all_goals first
  | (refine bodyPost_ret (v:=.tuple #[.agg #[I6 (sa.1:Int),I6 (1+(sb.2:Int))],.bool (decide (1+(sb.2:Int)<=20))]) (by simp[results,results274,go_sem]) rfl ⟨jE (show max sa.2 sb.2=sb.2 by omega),?_⟩
     repeat first|exact Ax|refine Fo ?_|refine Below.alloc ?_ qo _|refine WM ?_ qo _)
  | (refine bodyPost_ret (v:=.tuple #[.agg #[I6 (sa.1:Int),I6 (1+(sa.2:Int))],.bool (decide (1+(sa.2:Int)<=20))]) (by simp[results,results274,go_sem]) rfl ⟨jE (show max sa.2 sb.2=sa.2 by omega),?_⟩
     repeat first|exact Ax|refine Fo ?_|refine Below.alloc ?_ qo _|refine WM ?_ qo _)
end Go.Proofs.YtikojfajahnhgaaGreat
