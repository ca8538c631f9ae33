/-
  OUR OWN TEXT. The model's side of the checker: a list that holds a string; what an expr covers; how many patterns are positive.
-/
import Derived.Test.YtjjjagepnnbebaaGreatDoorKac
set_option maxHeartbeats 800000
namespace Go.Proofs.YtjjjagepnnbebaaGreatDoor
open Go.RowKit
attribute [local go_sem ↓] Go.wp_at_zero Go.wp_at_succ
def strR(_:World)(r:List Value)(x:ByteArray):Prop:=r=[.string x]
theorem zpe{w w':World}{r:List Value}{x:ByteArray}(h:strR w r x):strR w' r x:=h
abbrev zcl(q:Option Nat)(w:World)(a:Option Addr)(xs:List ByteArray):Prop:=zbf strR q 9 1 w a xs
theorem zcl.below{q:Option Nat}{w w':World}{a:Option Addr}{xs:List ByteArray}(h:zcl q w a xs)(hb:Below w.heap.size w w'):zcl q w' a xs:=zbf.below h (fun _ _ _ h=>zpe h) hb
theorem zcl.get{q:Option Nat}{w:World}{a:Option Addr}{xs:List ByteArray}{i:Nat}{x:ByteArray}(h:zcl q w a xs)(hi:xs[i]?=some x):∃ b o,a=some ⟨b,o,none⟩/\Qb q w 9 b/\w.cell? ⟨b,o+i,none⟩=some (.string x):=by
 obtain ⟨b,o,r,h1,h2,h3,G,E⟩:=h i x hi;unfold strR at E;subst E;exact ⟨b,o,h1,h2,by simpa using G 0 _ rfl⟩
theorem zeu(s:ByteArray)(a:Option Addr)(c:Nat)(xs:List ByteArray)(w:World){q:Option Nat}(hv:zcl q w a xs)(hl:xs.length<=1048576) :
  Calls Tryz.prog 68 #[.string s,.slice a xs.length c] w fun e w'=>e=.returned (.bool (memB s xs))/\w'=w:=by
 go_enter Tryz.func68,Tryz.ntmps68;go_wp2
 go_loopw [9] (fun i wr=>∃ (k:Nat),k<=xs.length/\i=.int .i64 k/\memB s xs=memB s (xs.drop k)/\wr=w) (fun i _=>xs.length - (intOf i).toNat)
 case atStart=>exact ⟨0,by omega,rfl,rfl,rfl⟩
 case round=>
  obtain ⟨k,hk,rfl,U,hb⟩:=hrel;subst hb;have G:Hid (memB s xs=memB s (xs.drop k)):=U;clear U;by_cases I:k<xs.length
  ·obtain ⟨x,E⟩:∃ x,xs[k]?=some x:=⟨xs[k],by simp[I]⟩
   obtain ⟨b,o,rfl,X,c0⟩:=hv.get E;have O:Hid (xs.drop k=x :: xs.drop (k+1)):=zaU E
   cases e1:(s.toList==x.toList)
   all_goals go_wp2
   ·go_roundw
    case rel=>
     refine ⟨k+1,by omega,by go_num,?_,(by first | rfl | trivial)⟩;rw[zb1]at e1;have:x≠s:=fun h=>by subst h;simp at e1
     rw[G.out,O.out];simp[memB,this]
    case measure=>simp[intOf];omega
   go_ret;rw[zb1]at e1;have e2:s=x:=by simpa using e1
   exact ⟨zah (by rw[G.out,O.out];simp[memB,e2]),rfl⟩
  go_wp2;go_ret;exact ⟨zah (by rw[G.out,List.drop_eq_nil_of_le (by omega)];rfl),rfl⟩
theorem zcR(a:Option Addr)(c:Nat)(es:List Ex)(S:List Sp)(x:Nat)(s:Sp)(w:World){q:Option Nat}(hv:zbG q w a es)(hS:Spans es S)(hx:S[x]?=some s) :
  Calls Tryz.prog 69 #[.slice a es.length c,.int .i64 (x:Int)] w fun e w'=>e=.returned (.int .i64 (s.1:Int))/\w'=w:=by
 have X:=hS.1;go_enter Tryz.func69,Tryz.ntmps69;go_wp2
 go_loopw [1] (fun i wr=>∃ (k:Nat) (t:Sp),i=.int .i64 k/\S[k]?=some t/\t.1=s.1/\wr=w) (fun i _=>(intOf i).toNat)
 case atStart=>exact ⟨x,s,rfl,hx,rfl,rfl⟩
 case round=>
  obtain ⟨k,t,rfl,hk,ht,hb⟩:=hrel;subst hb;have O:k<S.length:=(List.getElem?_eq_some_iff.1 hk).1;obtain ⟨e,E⟩:∃ e,es[k]?=some e:=⟨es[k]'(by omega),by simp⟩
  have Z:k<es.length:=by omega
  obtain ⟨b,o,rfl,hq,c0,c1,c2,c3,c4,c5,U,c7⟩:=hv.get E;by_cases G:e.kind=2
  ·obtain ⟨ea,eb,sa,sb,e1,e2,h1,h2,h3,h4,I⟩:=hS.op hk E G;rw[e1]at U;go_wp2;go_roundw
   case rel=>exact ⟨ea,sa,rfl,h3,(by rw[<- ht,I]),(by first | rfl | trivial)⟩
   case measure=>simp[intOf];omega
  have I:=hS.leaf hk E G;go_wp2;go_ret;refine ⟨?_,rfl⟩;rw[<- ht,I];rfl
theorem zhM(a:Option Addr)(c:Nat)(es:List Ex){q:Option Nat}(x ea eb I O:Nat)(e:Ex)(w:World)(hv:zbG q w a es)(E:es[x]?=some e)(ae:e.kind=2)(e1:e.a=(ea:Int))(e2:e.b=(eb:Int))(d1:I<=20)(d2:O<=20)
  (I1:Calls Tryz.prog 116 #[.slice a es.length c,.int .i64 (ea:Int)] w fun e w'=>e=.returned (.int .i64 (I:Int))/\w'=w)
  (I2:Calls Tryz.prog 116 #[.slice a es.length c,.int .i64 (eb:Int)] w fun e w'=>e=.returned (.int .i64 (O:Int))/\w'=w) :
  Calls Tryz.prog 116 #[.slice a es.length c,.int .i64 (x:Int)] w fun e w'=>e=.returned (.int .i64 ((1+max I O:Nat):Int))/\w'=w:=by
 have af:x<es.length:=(List.getElem?_eq_some_iff.1 E).1;obtain ⟨b,o,rfl,hq,c0,Z,c2,c3,c4,c5,c6,c7⟩:=hv.get E;rw[e1]at c6;rw[e2]at c7;have G:True:=trivial;clear hq Z c2 c3 c4 c5 hv e1 e2 E;by_cases ad:(I:Int)<(O:Int)
 all_goals
  go_enter Tryz.func116,Tryz.ntmps116;go_wp2_with (first | (go_at_call 116;have _t:=G;refine I1.mono ?_;rintro e' w1 ⟨rfl,U⟩;subst U;clear G) | (go_at_call 116;refine I2.mono ?_;rintro ab w2 ⟨rfl,X⟩;subst X));go_ret;refine ⟨zcc ?_,rfl⟩;omega
theorem zgI(a:Option Addr)(c:Nat)(es:List Ex)(S:List Sp){q:Option Nat}(w:World)(hv:zbG q w a es)(hS:Spans es S):∀ (x:Nat) (s:Sp),S[x]?=some s ->
  Calls Tryz.prog 116 #[.slice a es.length c,.int .i64 (x:Int)] w fun e w'=>e=.returned (.int .i64 (s.2:Int))/\w'=w:=by
 have Z:=hS.1;intro x
 induction x using Nat.strongRecOn with
 | _ x U=>
  intro s hk;have X:x<S.length:=(List.getElem?_eq_some_iff.1 hk).1;obtain ⟨e,E⟩:∃ e,es[x]?=some e:=⟨es[x]'(by omega),by simp⟩
  have ab:x<es.length:=by omega
  by_cases G:e.kind=2
  ·obtain ⟨ea,eb,sa,sb,e1,e2,h1,h2,h3,O,I⟩:=hS.op hk E G;have:=zhM a c es x ea eb sa.2 sb.2 e w hv E G e1 e2 (hS.depth_le ea sa h3) (hS.depth_le eb sb O) (U ea (by omega) sa h3) (U eb (by omega) sb O);rw[I];exact this
  have I:=hS.leaf hk E G;obtain ⟨b,o,rfl,hq,c0,c1,c2,c3,c4,c5,c6,c7⟩:=hv.get E;go_enter Tryz.func116,Tryz.ntmps116;go_wp2;go_ret;exact ⟨by rw[I];rfl,rfl⟩
theorem zhn(x:Ru)(a_pats:Option Addr)(c_pats:Nat)(a_exprs:Option Addr)(c_exprs:Nat)(a_acts:Option Addr)(c_acts:Nat){q:Option Nat}(w:World)(E:zdv q w a_pats x.pats)(hl:x.pats.length<=1048576) :
  Calls Tryz.prog 29 #[.agg #[.string x.name,.int .i64 x.sal,.slice a_pats x.pats.length c_pats,.slice a_exprs x.exprs.length c_exprs,.slice a_acts x.acts.length c_acts]] w fun e w'=>
   e=.returned (.int .i64 (positives x.pats:Int))/\Below w.heap.size w w':=by
 go_enter Tryz.func29,Tryz.ntmps29;go_wp2
 go_loopw [3,9] (fun l i wr=>∃ (k:Nat),k<=x.pats.length/\i=.int .i64 k/\l=.int .i64 (positives (x.pats.take k):Int)/\Below w.heap.size w wr) (fun _ i _=>x.pats.length - (intOf i).toNat)
 case atStart=>exact ⟨0,by omega,rfl,by simp[positives],(Below.refl _ _).alloc (Nat.le_refl _) _⟩
 case round=>
  obtain ⟨k,hk,rfl,rfl,hb⟩:=hrel;have hp:positives (x.pats.take k)<=x.pats.length:=Nat.le_trans List.countP_le_length (by simp;omega);by_cases O:k<x.pats.length
  ·obtain ⟨p,G⟩:∃ p,x.pats[k]?=some p:=⟨x.pats[k],by simp[O]⟩
   obtain ⟨b,o,a_terms,c_terms,rfl,hq,c0,Z,c2,I⟩:=(E.below hb).get G;have U:Hid (x.pats.take (k+1)=x.pats.take k ++ [p]):=zdG _ _ _ G;have X:∀ o,Below w.heap.size w (wr.alloc o):=fun o=>hb.alloc hb.size _
   cases hn:p.neg
   all_goals
    rw[hn]at c0;go_wp2;go_roundw
    case rel=>exact ⟨k+1,by omega,by go_num,by rw[U.out];simp[positives,pos1,hn],X _⟩
    case measure=>simp[intOf];omega
  go_wp2;go_ret;rw[List.take_of_length_le (by omega)];exact ⟨rfl,hb⟩
end Go.Proofs.YtjjjagepnnbebaaGreatDoor
