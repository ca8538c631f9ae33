/-
  OUR OWN TEXT. Ic1, Ic2, Ic5, one behind the other.
-/
import Derived.Test.YtjjjagepnnbebaaGreatDoorKac
import Derived.Test.YtjjjagepnnbebaaGreatDoorIm10m
import Derived.Deep.RegionHeld3
import Derived.Deep.DrawnRows
import Derived.BigQuiet
import Derived.Lib.Bytealg
set_option maxHeartbeats 1600000
set_option maxRecDepth 100000
namespace Go.Proofs.YtjjjagepnnbebaaGreatDoor
open Go.RowKit
attribute [local go_sem ↓] Go.wp_at_zero Go.wp_at_succ
theorem zgp(t:Tm)(w:World)(hs:t.le maxLen) :
  Calls Tryz.prog 164 #[.agg #[.int .i64 t.kind,.int .i64 t.op,.string t.var,.int .i64 t.val.kind,.int .i64 t.val.num,.string t.val.sym]] w fun e w'=>
   e=.returned (.bool (zbo t))/\Below w.heap.size w w':=by
 obtain ⟨E,O⟩:=hs;have X:=zHB w;obtain ⟨G⟩:Nonempty (Hid (zbo t=((t.var.toList.isEmpty && gVal t.val) || (gSym t.var.data.toList && zbm t.val)))):=⟨rfl⟩
 cases h1:t.var.toList.isEmpty
 ·cases I:gSym t.var.data.toList
  ·go_enter Tryz.func164,Tryz.ntmps164;go_wp2_with (go_at_call 96;refine (zaR t.var _ E).mono ?_;rintro e w' ⟨rfl,rfl⟩);go_ret;exact ⟨zah (by rw[G.out,h1,I];rfl),X _⟩
  go_enter Tryz.func164,Tryz.ntmps164;go_wp2_with (go_at_call 96;refine (zaR t.var _ E).mono ?_;rintro e w' ⟨rfl,rfl⟩)
  all_goals go_ret
  all_goals exact ⟨zah (by rw[G.out,h1,I];simp[zbm,isE, *]),(Below.refl _ _).alloc (Nat.le_refl _) _⟩
 have I:gSym t.var.data.toList=false:=zew (by
  have:t.var.toList=[]:=by simpa using h1
  rw[<- ByteArray.toList_eq,this];rfl)
 go_enter Tryz.func164,Tryz.ntmps164;go_wp2_with (go_at_call 163;refine (zeZ t.val _ O).mono ?_;rintro e w' ⟨rfl,U⟩);go_ret;exact ⟨zah (by rw[G.out,h1,I];simp),(X _).trans (U.mono (by simp))⟩
theorem zlL:notB.toList=[110,111,116]:=by rw[ByteArray.toList_eq];rfl
theorem zcG(s:ByteArray)(w:World)(hs:s.size<=maxLen) :
  Calls Tryz.prog 141 #[.string s] w fun e w'=>e=.returned (.bool (gCls s))/\w'=w:=by
 cases h1:gSym s.data.toList
 all_goals
  go_enter Tryz.func141,Tryz.ntmps141;go_wp2_with (go_at_call 96;refine (zaR s _ hs).mono ?_;rintro e w' ⟨rfl,rfl⟩);go_ret
 ·exact ⟨zah (by simp[gCls,h1]),rfl⟩
 exact ⟨zah (by rw[gCls,h1,<- zb1,zlL];rfl),rfl⟩
theorem zin(t:Tm)(w:World)(hs:t.le maxLen) :
  Calls Tryz.prog 142 #[.agg #[.int .i64 t.kind,.int .i64 t.op,.string t.var,.int .i64 t.val.kind,.int .i64 t.val.num,.string t.val.sym]] w fun e w'=>
   e=.returned (.bool (gTm t))/\Below w.heap.size w w':=by
 have ab:=hs;obtain ⟨Z,X⟩:=hs;have U:=zHB w;by_cases k0:t.kind=0
 ·go_enter Tryz.func142,Tryz.ntmps142;go_wp2
  all_goals go_ret
  all_goals exact ⟨zah (by simp[gTm,zbm,isE, *]),(Below.refl _ _).alloc (Nat.le_refl _) _⟩
 by_cases k1:t.kind=1
 ·by_cases o0:t.op=0
  ·by_cases v0:t.var.toList=[]
   ·go_enter Tryz.func142,Tryz.ntmps142;go_wp2_with (go_at_call 163;refine (zeZ t.val _ X).mono ?_;rintro e w' ⟨rfl,E⟩);go_ret;exact ⟨zah (by simp[gTm,isE, *]),(U _).trans (E.mono (by simp))⟩
   go_enter Tryz.func142,Tryz.ntmps142;go_wp2;go_ret;exact ⟨zah (by simp[gTm,isE, *]),(Below.refl _ _).alloc (Nat.le_refl _) _⟩
  go_enter Tryz.func142,Tryz.ntmps142;go_wp2;go_ret;exact ⟨zah (by simp[gTm,isE, *]),(Below.refl _ _).alloc (Nat.le_refl _) _⟩
 by_cases k2:t.kind=2
 ·by_cases o0:t.op=0
  ·by_cases z0:t.val.kind=0
   ·by_cases z1:t.val.num=0
    ·by_cases z2:t.val.sym.toList=[]
     focus
      go_enter Tryz.func142,Tryz.ntmps142;go_wp2_with (go_at_call 96;refine (zaR t.var _ Z).mono ?_;rintro e w' ⟨rfl,rfl⟩)
     rotate_left
     focus
      go_enter Tryz.func142,Tryz.ntmps142;go_wp2
     rotate_left
     all_goals
      go_ret;exact ⟨zah (by simp[gTm,zbm,isE, *]),(Below.refl _ _).alloc (Nat.le_refl _) _⟩
    go_enter Tryz.func142,Tryz.ntmps142;go_wp2;go_ret;exact ⟨zah (by simp[gTm,zbm,isE, *]),(Below.refl _ _).alloc (Nat.le_refl _) _⟩
   go_enter Tryz.func142,Tryz.ntmps142;go_wp2;go_ret;exact ⟨zah (by simp[gTm,zbm,isE, *]),(Below.refl _ _).alloc (Nat.le_refl _) _⟩
  go_enter Tryz.func142,Tryz.ntmps142;go_wp2;go_ret;exact ⟨zah (by simp[gTm,zbm,isE, *]),(Below.refl _ _).alloc (Nat.le_refl _) _⟩
 by_cases O:t.kind=3
 ·by_cases o1:1<=t.op
  ·by_cases o2:t.op<=6
   ·have G:Hid (gTm t=zbo t):=show gTm t=zbo t from by simp[gTm,O,o1,o2]
    have I:=fun w=>zgp t w ab;simp only[O]at I;go_enter Tryz.func142,Tryz.ntmps142;go_wp2_with (go_at_call 164;refine (I _).mono ?_;rintro e w' ⟨rfl,E⟩);go_ret;exact ⟨zah G.out.symm,(U _).trans (E.mono (by simp))⟩
   have G:Hid (gTm t=false):=show gTm t=false from by simp[gTm,O,o2]
   go_enter Tryz.func142,Tryz.ntmps142;go_wp2;go_ret;exact ⟨zah (by rw[G.out]),U _⟩
  have G:Hid (gTm t=false):=show gTm t=false from by simp[gTm,O,o1]
  go_enter Tryz.func142,Tryz.ntmps142;go_wp2;go_ret;exact ⟨zah (by rw[G.out]),U _⟩
 have G:Hid (gTm t=false):=show gTm t=false from by simp[gTm,k0,k1,k2,O]
 go_enter Tryz.func142,Tryz.ntmps142;go_wp2;go_ret;exact ⟨zah (by rw[G.out]),U _⟩
theorem zjg(x:Pt)(a:Option Addr)(c:Nat){q:Option Nat}(w:World)(hv:zfP q w a x.terms)(hc:x.cls.size<=maxLen)(hs:zb3 Tm.le maxLen x.terms)(hl:x.terms.length<=1048576) :
  Calls Tryz.prog 97 #[.agg #[.bool x.neg,.string x.cls,.slice a x.terms.length c]] w fun e w'=>
   e=.returned (.bool (gPt x))/\Below w.heap.size w w':=by
 obtain ⟨G⟩:Nonempty (Hid (gPt x=(gCls x.cls && (decide (x.terms.length<=6) && x.terms.all gTm)))):=⟨rfl⟩
 have B0:=zHB w
 cases hg:gCls x.cls
 ·go_enter Tryz.func97,Tryz.ntmps97;go_wp2_with (go_at_call 141;refine (zcG x.cls _ hc).mono ?_;rintro e w' ⟨rfl,rfl⟩);go_ret;exact ⟨zah (by rw[G.out,hg];rfl),B0 _⟩
 by_cases h6:6<x.terms.length
 ·have X:(6:Int)<(x.terms.length:Int):=by omega
  go_enter Tryz.func97,Tryz.ntmps97;go_wp2_with (go_at_call 141;refine (zcG x.cls _ hc).mono ?_;rintro e w' ⟨rfl,rfl⟩);go_ret;exact ⟨zah (by rw[G.out,hg,decide_eq_false (by omega)];rfl),B0 _⟩
 have X:¬ (6:Int)<(x.terms.length:Int):=by omega
 go_enter Tryz.func97,Tryz.ntmps97;go_wp2_with (go_at_call 141;refine (zcG x.cls _ hc).mono ?_;rintro e w' ⟨rfl,rfl⟩)
 go_loopw [18] (fun i wr=>∃ (k:Nat),k<=x.terms.length/\i=.int .i64 k/\gPt x=(x.terms.drop k).all gTm/\Below w.heap.size w wr) (fun i _=>x.terms.length - (intOf i).toNat)
 case atStart=>exact ⟨0,by omega,rfl,by rw[G.out,hg,decide_eq_true (by omega)];rfl,B0 _⟩
 case round=>
  obtain ⟨k,hk,rfl,hG,hb⟩:=hrel;have Z:Hid (gPt x=(x.terms.drop k).all gTm):=hG;clear hG;by_cases ad:k<x.terms.length
  ·obtain ⟨t,E⟩:∃ t,x.terms[k]?=some t:=⟨x.terms[k],by simp[ad]⟩
   obtain ⟨b,o,rfl,hq,c0,c1,c2,c3,c4,c5⟩:=(hv.below hb).get E;have ab:=hs.2 t (List.mem_of_getElem? E);have HD:Hid (x.terms.drop k=t :: x.terms.drop (k+1)):=zaU E;have U:∀ o,Below w.heap.size w (wr.alloc o):=fun o=>hb.alloc hb.size _
   cases O:gTm t
   all_goals
    go_wp2_with (go_at_call 142;refine (zin t _ ab).mono ?_;rintro e w' ⟨rfl,I⟩)
   ·go_ret;exact ⟨zah (by rw[Z.out,HD.out,List.all_cons,O];rfl),(U _).trans (I.mono (U _).size)⟩
   go_roundw
   case rel=>exact ⟨k+1,by omega,by go_num,by rw[Z.out,HD.out,List.all_cons,O];rfl,(U _).trans (I.mono (U _).size)⟩
   case measure=>simp[intOf];omega
  go_wp2;go_ret;exact ⟨zah (by rw[Z.out,List.drop_eq_nil_of_le (by omega)];rfl),hb⟩
end Go.Proofs.YtjjjagepnnbebaaGreatDoor
namespace Go.Proofs.YtjjjagepnnbebaaGreatDoor
open Go.RowKit Go.Lib
attribute [local go_sem ↓] Go.wp_at_zero Go.wp_at_succ
theorem zg2(s:ByteArray)(c:Int)(w:World) :
  Calls Tryz.prog 185 #[.string s,.int .u8 c] w fun e w'=>e=.returned (.int .i64 (Lib.indexByte s.data.toList c.toNat.toUInt8))/\w'=w:=by
 go_enter Tryz.func185,Tryz.ntmps185;go_wp2;rw[run_callFunc_extern Tryz.func191 (by kernel_rfl) (by kernel_rfl) (by kernel_rfl) (e:=Extern.BytealgIndexByte.indexByte) (by kernel_rfl),Lib.run_indexByteString];simp only[Result.andThen];rw[Oper.upon_value];go_wp2;go_ret;exact ⟨rfl,rfl⟩
theorem zil(s:ByteArray)(c:Int)(w:World) :
  Calls Tryz.prog 179 #[.string s,.int .u8 c] w fun e w'=>e=.returned (.int .i64 (Lib.indexByte s.data.toList c.toNat.toUInt8))/\w'=w:=by
 go_enter Tryz.func179,Tryz.ntmps179;go_wp2_with (go_at_call 185;refine (zg2 s c _).mono ?_;rintro e w' ⟨rfl,rfl⟩);go_ret;exact ⟨rfl,rfl⟩
theorem zme{c:Int}(G:0<=c)(h1:c<256):decide (0<=Lib.indexByte [43,45,42,47,37] c.toNat.toUInt8)=isAr c:=by
 have E:∀ n:Fin 256,decide (0<=Lib.indexByte [43,45,42,47,37] ((n.val:Nat):Int).toNat.toUInt8)=isAr ((n.val:Nat):Int):=by decide +kernel
 obtain ⟨n,rfl⟩:=Int.eq_ofNat_of_zero_le G;exact E ⟨n,by omega⟩
theorem zbN(c:Int)(G:0<=c)(h1:c<256)(w:World) :
  Calls Tryz.prog 174 #[.int .u8 c] w fun e w'=>e=.returned (.bool (isAr c))/\w'=w:=by
 have H:=zme G h1;have E:Hid (decide (0<=Lib.indexByte [43,45,42,47,37] c.toNat.toUInt8)=isAr c):=H;clear H;go_enter Tryz.func174,Tryz.ntmps174;go_wp2_with (go_at_call 179;refine (zil _ c _).mono ?_;rintro e w' ⟨rfl,rfl⟩);go_ret;exact ⟨zah (by rw[<- E.out]),rfl⟩
def spR(_:World)(r:List Value)(s:Sp):Prop:=r=[.int .i64 (s.1:Int),.int .i64 (s.2:Int)]
theorem zq2{w w':World}{r:List Value}{x:Sp}(h:spR w r x):spR w' r x:=h
abbrev zek(q:Option Nat)(w:World)(a:Option Addr)(xs:List Sp):Prop:=zbf spR q 201 2 w a xs
theorem zek.below{q:Option Nat}{w w':World}{a:Option Addr}{xs:List Sp}(h:zek q w a xs)(hb:Below w.heap.size w w'):zek q w' a xs:=zbf.below h (fun _ _ _ h=>zq2 h) hb
theorem zek.get{q:Option Nat}{w:World}{a:Option Addr}{xs:List Sp}{i:Nat}{x:Sp}(h:zek q w a xs)(hi:xs[i]?=some x):∃ b o,a=some ⟨b,o,none⟩/\b<w.heap.size/\w.cell? ⟨b,o+i * 2,none⟩=some (.int .i64 (x.1:Int))/\w.cell? ⟨b,o+i * 2+1,none⟩=some (.int .i64 (x.2:Int)):=by
 obtain ⟨b,o,r,h1,h2,h3,E,G⟩:=h i x hi;unfold spR at G;subst G;have c0:=E 0 _ rfl;refine ⟨b,o,h1,?_,c0,E 1 _ rfl⟩;by_cases hp:b<w.heap.size
 ·exact hp
 have:w.heap[b]?=none:=Array.getElem?_eq_none (by omega);simp[World.cell?,this]at c0
theorem za4{B n:Nat}{a w:World}(h:Below B a w):Below B a (w.drewN n):=⟨h.os,h.tape,h.output,h.size,h.block⟩
theorem zcB{S:List Sp}{e:Ex}(E:e.kind=2):zaJ S e=if opOk S e then zdq S e.a e.b else none:=by
 simp[zaJ,E]
theorem zle{f:Int}{m x:Nat}(h:m=x):Ending.returned (.tuple #[.agg #[.int .i64 f,.int .i64 (1+(x:Int))],.bool (decide (1+(x:Int)<=20))])=.returned (.tuple #[.agg #[.int .i64 f,.int .i64 ((1+m:Nat):Int)],.bool (decide (1+m<=20))]):=by
 subst h;rw[show ((1+m:Nat):Int)=1+(m:Int) by omega,show decide (1+m<=20)=decide (1+(m:Int)<=20) from decide_eq_decide.2 (by omega)]
theorem zhs(e:Ex)(a:Option Addr)(c:Nat)(S:List Sp){q:Option Nat}(w:World)(hv:zek q w a S)(hl:S.length<=60)(k2:e.kind=2)(ad:0<=e.op)(ab:e.op<256)
  (v0:e.var.toList=[]) (z0:e.val.kind=0) (z1:e.val.num=0) (z2:e.val.sym.toList=[]) (aq:isAr e.op=true) (an E:Nat) (sa sb:Sp) (X:e.a=(an:Int)) (Z:e.b=(E:Int)) (I:S[an]?=some sa) (O:S[E]?=some sb) (ae:E+1=S.length) (ha:an+1=sb.1) (ar:sb.2<=20) (ap:sa.2<=20) :
  Calls Tryz.prog 165 #[.agg #[.int .i64 e.kind,.int .u8 e.op,.string e.var,.int .i64 e.val.kind,.int .i64 e.val.num,.string e.val.sym,.int .i64 e.a,.int .i64 e.b],.slice a S.length c] w fun r w'=>
   r=.returned (.tuple #[.agg #[.int .i64 (sa.1:Int),.int .i64 ((1+max sa.2 sb.2:Nat):Int)],.bool (decide (1+max sa.2 sb.2<=20))])/\Below w.heap.size w w':=by
 have B2:∀ o o',Below w.heap.size w ((w.alloc o).alloc o'):=fun o o'=>((Below.refl _ _).alloc (Nat.le_refl _) _).alloc (by simp) _;obtain ⟨b,o,rfl,al,c0,c1⟩:=hv.get O;obtain ⟨b',o',G,U,c2,c3⟩:=hv.get I;injection G with G;injection G with hbe1 hbe2 _;subst hbe1 hbe2;have au:an<S.length:=(List.getElem?_eq_some_iff.1 I).1;have d0:decide ((E:Int)<0)=false:=decide_eq_false (by omega);have d1:decide ((an:Int)<0)=false:=decide_eq_false (by omega);have e1:((E:Int) != (S.length:Int) - 1)=false:=by simp;omega
 have e2:((an:Int) != (sb.1:Int) - 1)=false:=by simp;omega
 have z3:(E:Int)<(S.length:Int):=by omega
 have z4:(0:Int)<=(E:Int):=by omega
 have z5:(an:Int)<(S.length:Int):=by omega
 have z6:(0:Int)<=(an:Int):=by omega
 have ah:b<w.heap.size+1:=by omega
 have ag:b<w.heap.size+1+1:=by omega
 have ak:b<w.heap.size+1+1+1:=by omega
 have ao:∀ (W:World) (n:Nat),(W.drewN n).heap=W.heap:=fun _ _=>rfl;have af:sb.1<=60:=by omega
 clear I O hv U ae ha;rw[Z,X];clear Z X;go_enter Tryz.func165,Tryz.ntmps165;go_wp2_with (go_at_call 174;refine (zbN e.op ad ab _).mono ?_;rintro e' w' ⟨rfl,rfl⟩)
 go_quiet (fail)
 go_wp2;have aj:∀ n o1 o2,b<(((w.alloc o1).alloc o2).drewN n).heap.size:=fun n o1 o2=>by
  show b<((w.alloc o1).alloc o2).heap.size;simp;omega
 go_region
 all_goals go_wp2
 all_goals go_region
 all_goals go_wp2
 all_goals first
  | (refine bodyPost_ret (v:=.tuple #[.agg #[.int .i64 (sa.1:Int),.int .i64 (1+(sb.2:Int))],.bool (decide (1+(sb.2:Int)<=20))]) (by simp[results,Tryz.results165,go_sem]) rfl ⟨zle (show max sa.2 sb.2=sb.2 by omega),?_⟩
     repeat first | exact B2 _ _ | refine za4 ?_ | refine Below.alloc ?_ (by first | (simp;done) | (simp;omega)) _ | refine Below.setCell ?_ (by first | (simp;done) | (simp;omega)) _)
  | (refine bodyPost_ret (v:=.tuple #[.agg #[.int .i64 (sa.1:Int),.int .i64 (1+(sa.2:Int))],.bool (decide (1+(sa.2:Int)<=20))]) (by simp[results,Tryz.results165,go_sem]) rfl ⟨zle (show max sa.2 sb.2=sa.2 by omega),?_⟩
     repeat first | exact B2 _ _ | refine za4 ?_ | refine Below.alloc ?_ (by first | (simp;done) | (simp;omega)) _ | refine Below.setCell ?_ (by first | (simp;done) | (simp;omega)) _)
end Go.Proofs.YtjjjagepnnbebaaGreatDoor
namespace Go.Proofs.YtjjjagepnnbebaaGreatDoor
open Go.RowKit
attribute [local go_sem ↓] Go.wp_at_zero Go.wp_at_succ
theorem zci(x:Ru)(a_pats:Option Addr)(c_pats:Nat)(a_exprs:Option Addr)(c_exprs:Nat)(a_acts:Option Addr)(c_acts:Nat){q:Option Nat}(w:World)(E:zdv q w a_pats x.pats)(hl:x.pats.length<=1048576) :
  Calls Tryz.prog 52 #[.agg #[.string x.name,.int .i64 x.sal,.slice a_pats x.pats.length c_pats,.slice a_exprs x.exprs.length c_exprs,.slice a_acts x.acts.length c_acts]] w fun e w'=>
   e=.returned (.int .i64 (positives x.pats:Int))/\Below w.heap.size w w':=by
 go_enter Tryz.func52,Tryz.ntmps52;go_wp2
 go_loopw [3,9] (fun l i wr=>∃ (k:Nat),k<=x.pats.length/\i=.int .i64 k/\l=.int .i64 (positives (x.pats.take k):Int)/\Below w.heap.size w wr) (fun _ i _=>x.pats.length - (intOf i).toNat)
 case atStart=>exact ⟨0,by omega,rfl,by simp[positives],(Below.refl _ _).alloc (Nat.le_refl _) _⟩
 case round=>
  obtain ⟨k,hk,rfl,rfl,hb⟩:=hrel;have hp:positives (x.pats.take k)<=x.pats.length:=Nat.le_trans List.countP_le_length (by simp;omega);by_cases O:k<x.pats.length
  ·obtain ⟨p,G⟩:∃ p,x.pats[k]?=some p:=⟨x.pats[k],by simp[O]⟩
   obtain ⟨b,o,a_terms,c_terms,rfl,hq,c0,Z,c2,I⟩:=(E.below hb).get G;have U:Hid (x.pats.take (k+1)=x.pats.take k ++ [p]):=zdG _ _ _ G;have X:∀ o,Below w.heap.size w (wr.alloc o):=fun o=>hb.alloc hb.size _
   cases hn:p.neg
   all_goals
    rw[hn]at c0;go_wp2;go_roundw
    case rel=>exact ⟨k+1,by omega,by go_num,by rw[U.out];simp[positives,pos1,hn],X _⟩
    case measure=>simp[intOf];omega
  go_wp2;go_ret;rw[List.take_of_length_le (by omega)];exact ⟨rfl,hb⟩
theorem zaE{α:Type}(f:α->Bool)(x:α)(r:List α)(k:Nat):zaI f (x :: r) k=if f x then zaI f r (k+1) else some k:=rfl
def item0:Option Nat->Int
 | none=>0
 | some i=>(i:Int)
theorem zjw(x:Ru)(a_pats:Option Addr)(c_pats:Nat)(a_exprs:Option Addr)(c_exprs:Nat)(a_acts:Option Addr)(c_acts:Nat){q:Option Nat}(w:World)(O:zdv q w a_pats x.pats)(I:zdY q w a_acts x.acts)(hl:x.pats.length<=1048576)(ao:x.acts.length<=1048576) :
  Calls Tryz.prog 54 #[.agg #[.string x.name,.int .i64 x.sal,.slice a_pats x.pats.length c_pats,.slice a_exprs x.exprs.length c_exprs,.slice a_acts x.acts.length c_acts]] w fun e w'=>
   e=.returned (.int .i64 (item0 (refs x)))/\Below w.heap.size w w':=by
 have B0:=zHB w;have ak:positives x.pats<=x.pats.length:=List.countP_le_length;go_enter Tryz.func54,Tryz.ntmps54;go_wp2_with (go_at_call 52;refine (zci x a_pats c_pats a_exprs c_exprs a_acts c_acts _ (O.below (B0 _)) hl).mono ?_;rintro e w1 ⟨rfl,G⟩;have q2:w1.cell? ⟨w.heap.size,2,none⟩=some (.slice a_pats x.pats.length c_pats):=zaa G (by simp[go_sem]);have q4:w1.cell? ⟨w.heap.size,4,none⟩=some (.slice a_acts x.acts.length c_acts):=zaa G (by simp[go_sem]));have ag:Below w.heap.size w w1:=(B0 _).trans (G.mono (by simp));have af:w.heap.size<w1.heap.size:=by have:=G.size;simp at this;omega
 clear G q4
 go_loopw [12] (fun i wr=>∃ (k:Nat),k<=x.acts.length/\i=.int .i64 k/\refs x=zaI (zbI (positives x.pats)) (x.acts.drop k) (x.pats.length+1+k)/\wr.cell? ⟨w.heap.size,2,none⟩=some (.slice a_pats x.pats.length c_pats)/\w.heap.size<wr.heap.size/\Below w.heap.size w wr) (fun i _=>x.acts.length - (intOf i).toNat)
 case atStart=>exact ⟨0,by omega,rfl,rfl,q2,af,ag⟩
 case round=>
  obtain ⟨k,hk,rfl,hG,ah,al,hb⟩:=hrel;have HG:Hid (refs x=zaI (zbI (positives x.pats)) (x.acts.drop k) (x.pats.length+1+k)):=hG;clear hG;by_cases aj:k<x.acts.length
  ·obtain ⟨y,ab⟩:∃ y,x.acts[k]?=some y:=⟨x.acts[k],by simp[aj]⟩
   obtain ⟨b,o,a_args,c_args,rfl,hq,c0,c1,c2,c3,ae⟩:=(I.below hb).get ab;have HD:Hid (x.acts.drop k=y :: x.acts.drop (k+1)):=zaU ab;have B1:∀ o,Below w.heap.size w (wr.alloc o):=fun o=>hb.alloc hb.size _;have X:∀ o,(wr.alloc o).cell? ⟨w.heap.size,2,none⟩=some (.slice a_pats x.pats.length c_pats):=fun o=>by
    have:Below wr.heap.size wr (wr.alloc o):=(Below.refl _ _).alloc (Nat.le_refl _) _;exact zaa this ah
   have ad:∀ o,w.heap.size<(wr.alloc o).heap.size:=fun o=>by simp;omega
   have good:zbI (positives x.pats) y=true->refs x=zaI (zbI (positives x.pats)) (x.acts.drop (k+1)) (x.pats.length+1+(k+1)):=fun h=>by
    rw[HG.out,HD.out,zaE,h];rfl
   have Z:zbI (positives x.pats) y=false->refs x=some (x.pats.length+1+k):=fun h=>by
    rw[HG.out,HD.out,zaE,h];rfl
   obtain ⟨GD⟩:Nonempty (Hid ((zbI (positives x.pats) y=true->refs x=zaI (zbI (positives x.pats)) (x.acts.drop (k+1)) (x.pats.length+1+(k+1)))/\(zbI (positives x.pats) y=false->refs x=some (x.pats.length+1+k)))):=⟨⟨good,Z⟩⟩
   clear good Z;by_cases E:y.kind=2∨y.kind=3
   ·by_cases r0:y.k<1
    ·have U:Hid (refs x=some (x.pats.length+1+k)):=GD.out.2 (by
      rcases E with h | h <;> simp[zbI,h] <;> omega)
     rcases E with h | h
     all_goals
      go_wp2;go_ret;exact ⟨zcc (by rw[U.out];simp[item0];omega),B1 _⟩
    by_cases r1:(positives x.pats:Int)<y.k
    ·have U:Hid (refs x=some (x.pats.length+1+k)):=GD.out.2 (by
      rcases E with h | h <;> simp[zbI,h] <;> omega)
     rcases E with h | h
     all_goals
      go_wp2;go_ret;exact ⟨zcc (by rw[U.out];simp[item0];omega),B1 _⟩
    have U:Hid (refs x=zaI (zbI (positives x.pats)) (x.acts.drop (k+1)) (x.pats.length+1+(k+1))):=GD.out.1 (by
     rcases E with h | h <;> simp[zbI,h] <;> omega)
    rcases E with h | h
    all_goals
     go_wp2;go_roundw
     case rel=>exact ⟨k+1,by omega,by go_num,U.out,X _,ad _,B1 _⟩
     case measure=>simp[intOf];omega
   have h2:(y.kind==2)=false:=by simp;omega
   have h3:(y.kind==3)=false:=by simp;omega
   have U:Hid (refs x=zaI (zbI (positives x.pats)) (x.acts.drop (k+1)) (x.pats.length+1+(k+1))):=GD.out.1 (by simp[zbI,h2,h3]);go_wp2;go_roundw
   case rel=>exact ⟨k+1,by omega,by go_num,U.out,X _,ad _,B1 _⟩
   case measure=>simp[intOf];omega
  go_wp2;go_ret;exact ⟨zcc (by rw[HG.out,List.drop_eq_nil_of_le (by omega)];rfl),hb⟩
end Go.Proofs.YtjjjagepnnbebaaGreatDoor
