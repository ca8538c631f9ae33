import Derived.Test.YtikojfajahnhgaaGreatKab
set_option linter.all false
set_option maxHeartbeats 1600000
set_option maxRecDepth 100000
namespace Go.Proofs.YtikojfajahnhgaaGreat
open Go.RowKit Go.Proofs.Tryz
attribute [local go_sem ↓] wp_at_zero wp_at_succ
attribute [local simp] At I6 Pn mzI Bk
attribute [local go_sem] At I6 Pn Bk
section
open Go.Lib
def zhG(s c w) :
  Ca 280 #[.string s,.int .u8 c] w λe w'=>e=.returned (I6 (Lib.indexByte s.data.toList c.toNat.toUInt8))/\w'=w:=by
 go_enter func280,ntmps280;go_wp2;rw[run_callFunc_extern func281 qg qg qg (e:=Extern.BytealgIndexByte.indexByte) qg,Lib.run_indexByteString];simp only[Result.andThen];rw[iX];exact RZ
def zko(s c w) :
  Ca 279 #[.string s,.int .u8 c] w λe w'=>e=.returned (I6 (Lib.indexByte s.data.toList c.toNat.toUInt8))/\w'=w:=by
 go_enter func279,ntmps279;go_wp2_with (go_at_call 280;refine(zhG s c _).j ?_;rintro e w' ⟨rfl,rfl⟩);go_ret;exact⟨rfl,rfl⟩
def zpu{c}(O:0<=c)(a:c<256):decide (0<=Lib.indexByte [43,45,42,47,37] c.toNat.toUInt8)=Eh c:=by
 have key:∀n:Fin 256,decide (0<=Lib.indexByte [43,45,42,47,37] ((n.val:Nat):Int).toNat.toUInt8)=Eh ((n.val:Nat):Int):=OL;obtain⟨n,rfl⟩:=Yk O;exact key ⟨n,qd⟩
def zlU(c)(O:0<=c)(a:c<256)(w) :
  Ca 278 #[.int .u8 c] w λe w'=>e=.returned (.bool (Eh c))/\w'=w:=by
 have H:=zpu O a;have b:Hid (decide (0<=Lib.indexByte [43,45,42,47,37] c.toNat.toUInt8)=Eh c):=H;go_enter func278,ntmps278;go_wp2_with (go_at_call 279;refine(zko _ c _).j ?_;rintro e w' ⟨rfl,rfl⟩);go_ret;exact⟨Ba (by rw[<-b.o]),rfl⟩
def Xi(_:Aa)(r:Aj)(s:Sp):Prop:=r=[.int .i64 (s.1:Int),.int .i64 (s.2:Int)]
def z8{w w' r x}(h:Xi w r x):Xi w' r x:=h
abbrev Jz(q:AD)(w:Aa)(a:Af)(xs:BS):Prop:=CI Xi q 375 2 w a xs
theorem Jz.e{q w w' a xs}(h:Jz q w a xs)(b:Bw w w'):Jz q w' a xs:=CI.e h (λ_ _ _ h=>z8 h) b
def Jz.get{q w a xs i x}(h:Jz q w a xs)(f:xs[i]?=some x):∃b o,a=some ⟨b,o,none⟩/\b<w.heap.size/\At w b (o+i*2) (I6 (x.1:Int))/\At w b (o+i*2+1) (I6 (x.2:Int)):=by
 obtain⟨b,o,r,j,l,k,e,c⟩:=h i x f;unfold Xi at c;subst c;have d:=e 0 _ rfl;refine⟨b,o,j,?_,d,e 1 _ rfl⟩;by_cases g:b<w.heap.size
 .exact g
 have:w.heap[b]?=none:=Ki qd;simp[World.cell?,this]at d
def GH{B n a w}(h:Below B a w):Below B a (w.drewN n):=⟨h.os,h.tape,h.output,h.size,h.block⟩
def mY{f}{m x:Nat}(h:m=x):Ending.returned (.tuple #[.agg #[I6 f,I6 (1+(x:Int))],.bool (decide (1+(x:Int)<=20))])=.returned (.tuple #[.agg #[I6 f,I6 ((1+m:Nat):Int)],.bool (decide (1+m<=20))]):=by simp_all<;>omega
def ziq(e:Ex)(a c S){q}(w)(hv:Jz q w a S)(hl:S.length<=60)(z:e.w=2)(t:0<=e.op)(x:e.op<256)(L:e.F.toList=[])(M:e.val.w=0)(T:e.val.num=0)(I:e.val.O.toList=[])(R:Eh e.op=true)(d O:Nat)(sa sb)(s:e.a=(d:Int))(u:e.b=(O:Int))(p:S[d]?=some sa)(y:S[O]?=some sb)(az:O+1=S.length)(N:d+1=sb.1)(aA:sb.2<=20)(K:sa.2<=20) :
  Ca 274 #[.agg #[I6 e.w,.int .u8 e.op,.string e.F,I6 e.val.w,I6 e.val.num,.string e.val.O,I6 e.a,I6 e.b],.slice a S.length c] w λr w'=>
   r=.returned (.tuple #[.agg #[I6 (sa.1:Int),I6 ((1+max sa.2 sb.2:Nat):Int)],.bool (decide (1+max sa.2 sb.2<=20))])/\Bw w w':=by
 obtain⟨b,o,rfl,aC,D,c1⟩:=hv.get y;obtain⟨B,o',i,au,G,J⟩:=hv.get p;injection i with i;injection i with g f _;subst g f;have m:d<S.length:=(yf.1 p).1;have U:decide ((O:Int)<0)=false:=decide_eq_false qd;have d1:decide ((d:Int)<0)=false:=decide_eq_false qd;have e1:((O:Int) != (S.length:Int)-1)=false:=by simp;omega
 have Y:((d:Int) != (sb.1:Int)-1)=false:=by simp;omega
 have Z:(O:Int)<(S.length:Int):=qd;have A:(0:Int)<=(O:Int):=qd;obtain⟨E,H⟩:=CZ m;have aw:b<w.heap.size+1:=qd;have ay:b<w.heap.size+1+1:=qd;have ar:b<w.heap.size+1+1+1:=qd;have aB:∀(W:Aa)(n:Nat),(W.drewN n).heap=W.heap:=λ_ _=>rfl;have C:sb.1<=60:=qd;rw[u,s];go_enter func274,ntmps274;go_wp2_with (go_at_call 278;refine(zlU e.op t x _).j ?_;rintro e' w' ⟨rfl,rfl⟩)
 go_quiet (fail)
 go_wp2;have ax:∀n l k,b<(((w.alloc l).alloc k).drewN n).heap.size:=λn l k=>by
  show b<((w.alloc l).alloc k).heap.size;simp;omega
 go_region
 all_goals go_wp2
 all_goals go_region
 all_goals go_wp2
 all_goals first
  | (refine bodyPost_ret (v:=.tuple #[.agg #[I6 (sa.1:Int),I6 (1+(sb.2:Int))],.bool (decide (1+(sb.2:Int)<=20))]) (by simp[results,results274,go_sem]) rfl ⟨mY (show max sa.2 sb.2=sb.2 by omega),?_⟩
     repeat first|exact Br|refine GH ?_|refine Below.alloc ?_ qv _|refine Kz ?_ qv _)
  | (refine bodyPost_ret (v:=.tuple #[.agg #[I6 (sa.1:Int),I6 (1+(sa.2:Int))],.bool (decide (1+(sa.2:Int)<=20))]) (by simp[results,results274,go_sem]) rfl ⟨mY (show max sa.2 sb.2=sa.2 by omega),?_⟩
     repeat first|exact Br|refine GH ?_|refine Below.alloc ?_ qv _|refine Kz ?_ qv _)
end

end Go.Proofs.YtikojfajahnhgaaGreat
