/-
  OUR OWN TEXT. The program's side of the checker: what an expr covers.
-/
import Derived.Test.YtmmdlgjmplddiaaGreatHam
import Derived.Deep.RegionHeld3
import Derived.Deep.DrawnRows
import Derived.BigQuiet
import Derived.Lib.Bytealg
namespace Go.Proofs.YtmmdlgjmplddiaaGreat
open Go.RowKit Go.Lib
attribute [local go_sem ↓] Go.wp_at_zero Go.wp_at_succ
set_option maxHeartbeats 800000 in
set_option maxRecDepth 100000 in
theorem zfa (s:ByteArray) (c:Int) (w:World) :
  Calls Tryz.prog 178 #[.string s,.int .u8 c] w fun e w'=>e=.returned (.int .i64 (Lib.indexByte s.data.toList c.toNat.toUInt8))∧w'=w:=by
 go_enter Tryz.func178,Tryz.ntmps178
 go_wp2
 rw [run_callFunc_extern Tryz.func179 (by kernel_rfl) (by kernel_rfl) (by kernel_rfl) (e:=Extern.BytealgIndexByte.indexByte) (by kernel_rfl),Lib.run_indexByteString]
 simp only [Result.andThen]
 rw [Oper.upon_value]
 go_wp2
 go_ret
 exact ⟨rfl,rfl⟩
set_option maxHeartbeats 800000 in
theorem zgG (s:ByteArray) (c:Int) (w:World) :
  Calls Tryz.prog 177 #[.string s,.int .u8 c] w fun e w'=>e=.returned (.int .i64 (Lib.indexByte s.data.toList c.toNat.toUInt8))∧w'=w:=by
 go_enter Tryz.func177,Tryz.ntmps177
 go_wp2_with (go_at_call 178;refine (zfa s c _).mono ?_;rintro e w' ⟨rfl,rfl⟩)
 go_ret
 exact ⟨rfl,rfl⟩
theorem zjO {c:Int} (h0:0≤c) (h1:c<256):decide (0≤Lib.indexByte [43,45,42,47,37] c.toNat.toUInt8)=isAr c:=by
 have key:∀ n:Fin 256,decide (0≤Lib.indexByte [43,45,42,47,37] ((n.val:Nat):Int).toNat.toUInt8)=isAr ((n.val:Nat):Int):=by decide +kernel
 obtain ⟨n,rfl⟩:=Int.eq_ofNat_of_zero_le h0
 exact key ⟨n,by omega⟩
set_option maxHeartbeats 800000 in
theorem zcc (c:Int) (h0:0≤c) (h1:c<256) (w:World) :
  Calls Tryz.prog 175 #[.int .u8 c] w fun e w'=>e=.returned (.bool (isAr c))∧w'=w:=by
 have H:=zjO h0 h1
 have HH:Hid (decide (0≤Lib.indexByte [43,45,42,47,37] c.toNat.toUInt8)=isAr c):=H
 clear H
 go_enter Tryz.func175,Tryz.ntmps175
 go_wp2_with (go_at_call 177;refine (zgG _ c _).mono ?_;rintro e w' ⟨rfl,rfl⟩)
 go_ret
 exact ⟨zac (by rw [← HH.out]),rfl⟩
def spR (_:World) (r:List Value) (s:Sp):Prop:=r=[.int .i64 (s.1:Int),.int .i64 (s.2:Int)]
theorem zm1 {w w':World}{r:List Value}{x:Sp} (h:spR w r x):spR w' r x:=h
abbrev zdo (q:Option Nat) (w:World) (a:Option Addr) (xs:List Sp):Prop:=zaJ spR q 246 2 w a xs
theorem zdo.below {q:Option Nat}{w w':World}{a:Option Addr}{xs:List Sp} (h:zdo q w a xs) (hb:Below w.heap.size w w'):zdo q w' a xs:=zaJ.below h (fun _ _ _ h=>zm1 h) hb
theorem zdo.get {q:Option Nat}{w:World}{a:Option Addr}{xs:List Sp}{i:Nat}{x:Sp} (h:zdo q w a xs) (hi:xs[i]?=some x):∃ b o,a=some ⟨b,o,none⟩∧b<w.heap.size∧w.cell? ⟨b,o+i * 2,none⟩=some (.int .i64 (x.1:Int))∧w.cell? ⟨b,o+i * 2+1,none⟩=some (.int .i64 (x.2:Int)):=by
 obtain ⟨b,o,r,h1,h2,h3,h4,h5⟩:=h i x hi
 unfold spR at h5
 subst h5
 have c0:=h4 0 _ rfl
 refine ⟨b,o,h1,?_,c0,h4 1 _ rfl⟩
 by_cases hp:b<w.heap.size
 ·exact hp
 ·have:w.heap[b]?=none:=Array.getElem?_eq_none (by omega)
  simp [World.cell?,this] at c0
theorem zaN {B n:Nat}{a w:World} (h:Below B a w):Below B a (w.drewN n):=⟨h.os,h.tape,h.output,h.size,h.block⟩
theorem zbZ {S:List Sp}{e:Ex} (k2:e.kind=2):zaE S e=if opOk S e then zcU S e.a e.b else none:=by
 simp [zaE,k2]
theorem ziN {f:Int}{m x:Nat} (h:m=x):Ending.returned (.tuple #[.agg #[.int .i64 f,.int .i64 (1+(x:Int))],.bool (decide (1+(x:Int)≤20))])=.returned (.tuple #[.agg #[.int .i64 f,.int .i64 ((1+m:Nat):Int)],.bool (decide (1+m≤20))]):=by
 subst h
 rw [show ((1+m:Nat):Int)=1+(m:Int) by omega,show decide (1+m≤20)=decide (1+(m:Int)≤20) from decide_eq_decide.2 (by omega)]
set_option maxHeartbeats 1600000 in
theorem zfJ (e:Ex) (a:Option Addr) (c:Nat) (S:List Sp) {q:Option Nat} (w:World) (hv:zdo q w a S) (hl:S.length≤60) (k2:e.kind=2) (ho0:0≤e.op) (ho1:e.op<256)
  (v0:e.var.toList=[]) (z0:e.val.kind=0) (z1:e.val.num=0) (z2:e.val.sym.toList=[]) (har:isAr e.op=true) (an bn:Nat) (sa sb:Sp) (han:e.a=(an:Int)) (hbn:e.b=(bn:Int)) (hsa:S[an]?=some sa) (hsb:S[bn]?=some sb) (hbl:bn+1=S.length) (ha:an+1=sb.1) (hd2:sb.2≤20) (hd4:sa.2≤20) :
  Calls Tryz.prog 168 #[.agg #[.int .i64 e.kind,.int .u8 e.op,.string e.var,.int .i64 e.val.kind,.int .i64 e.val.num,.string e.val.sym,.int .i64 e.a,.int .i64 e.b],.slice a S.length c] w fun r w'=>
   r=.returned (.tuple #[.agg #[.int .i64 (sa.1:Int),.int .i64 ((1+max sa.2 sb.2:Nat):Int)],.bool (decide (1+max sa.2 sb.2≤20))])∧Below w.heap.size w w':=by
 have B2:∀ o o',Below w.heap.size w ((w.alloc o).alloc o'):=fun o o'=>((Below.refl _ _).alloc (Nat.le_refl _) _).alloc (by simp) _
 obtain ⟨b,o,rfl,hbw,c0,c1⟩:=hv.get hsb
 obtain ⟨b',o',hbe,hbw',c2,c3⟩:=hv.get hsa
 injection hbe with hbe
 injection hbe with hbe1 hbe2 _
 subst hbe1 hbe2
 have hal:an<S.length:=(List.getElem?_eq_some_iff.1 hsa).1
 have d0:decide ((bn:Int)<0)=false:=decide_eq_false (by omega)
 have d1:decide ((an:Int)<0)=false:=decide_eq_false (by omega)
 have e1:((bn:Int) != (S.length:Int) - 1)=false:=by simp;omega
 have e2:((an:Int) != (sb.1:Int) - 1)=false:=by simp;omega
 have z3:(bn:Int)<(S.length:Int):=by omega
 have z4:(0:Int)≤(bn:Int):=by omega
 have z5:(an:Int)<(S.length:Int):=by omega
 have z6:(0:Int)≤(an:Int):=by omega
 have hbw1:b<w.heap.size+1:=by omega
 have hbw2:b<w.heap.size+1+1:=by omega
 have hbw3:b<w.heap.size+1+1+1:=by omega
 have hdr:∀ (W:World) (n:Nat),(W.drewN n).heap=W.heap:=fun _ _=>rfl
 have hsb60:sb.1≤60:=by omega
 clear hsa hsb hv hbw' hbl ha
 rw [hbn,han]
 clear hbn han
 go_enter Tryz.func168,Tryz.ntmps168
 go_wp2_with (go_at_call 175;refine (zcc e.op ho0 ho1 _).mono ?_;rintro e' w' ⟨rfl,rfl⟩)
 go_quiet (fail)
 go_wp2
 have hbw0:∀ n o1 o2,b<(((w.alloc o1).alloc o2).drewN n).heap.size:=fun n o1 o2=>by
  show b<((w.alloc o1).alloc o2).heap.size
  simp
  omega
 go_region
 all_goals go_wp2
 all_goals go_region
 all_goals go_wp2
 all_goals first
  | (refine bodyPost_ret (v:=.tuple #[.agg #[.int .i64 (sa.1:Int),.int .i64 (1+(sb.2:Int))],.bool (decide (1+(sb.2:Int)≤20))]) (by simp [results,Tryz.results168,go_sem]) rfl ⟨ziN (show max sa.2 sb.2=sb.2 by omega),?_⟩
     repeat first | exact B2 _ _ | refine zaN ?_ | refine Below.alloc ?_ (by first | (simp;done) | (simp;omega)) _ | refine Below.setCell ?_ (by first | (simp;done) | (simp;omega)) _)
  | (refine bodyPost_ret (v:=.tuple #[.agg #[.int .i64 (sa.1:Int),.int .i64 (1+(sa.2:Int))],.bool (decide (1+(sa.2:Int)≤20))]) (by simp [results,Tryz.results168,go_sem]) rfl ⟨ziN (show max sa.2 sb.2=sa.2 by omega),?_⟩
     repeat first | exact B2 _ _ | refine zaN ?_ | refine Below.alloc ?_ (by first | (simp;done) | (simp;omega)) _ | refine Below.setCell ?_ (by first | (simp;done) | (simp;omega)) _)
end Go.Proofs.YtmmdlgjmplddiaaGreat
