/-
  OUR OWN TEXT. Mo0, Sc2, Rc1, one behind the other.
-/
import Derived.Test.YtmmdlgjmplddiaaGreatKaj
import Derived.Test.YtmmdlgjmplddiaaGreatKak
namespace Go.Proofs.YtmmdlgjmplddiaaGreat
open Go.RowKit
structure MkO (b:Option Nat) (w w':World):Prop where
 rest:Below 0 w w'
 block:∀ g,g<w.heap.size→b≠some g→w'.heap[g]?=w.heap[g]?
theorem MkO.refl (b:Option Nat) (w:World):MkO b w w:=⟨Below.refl _ _,fun _ _ _=>rfl⟩
theorem MkO.trans {b:Option Nat}{u v w:World} (h:MkO b u v) (k:MkO b v w):MkO b u w:=
 ⟨h.rest.trans k.rest,fun g hg hs=>(k.block g (Nat.lt_of_lt_of_le hg h.rest.size) hs).trans (h.block g hg hs)⟩
theorem MkO.of_below {b:Option Nat}{u v:World} (h:Below u.heap.size u v):MkO b u v:=⟨h.mono (Nat.zero_le _),fun g hg _=>h.block g hg⟩
theorem MkO.set {w:World}{g o:Nat} (x:Value):MkO (some g) w (w.setCell ⟨g,o,none⟩ x):=
 ⟨(Below.refl _ _).setCell (Nat.zero_le _) _,fun h _ hs=>Below.heap_setCell _ _ _ _ (fun e=>hs (by rw [e]))⟩
theorem MkO.below {b:Option Nat}{w w':World}{B:Nat} (h:MkO b w w') (hB:B≤w.heap.size) (hs:∀ g,b=some g→B≤g):Below B w w':=
 ⟨h.rest.os,h.rest.tape,h.rest.output,h.rest.size,fun k hk=>h.block k (by omega) (fun e=>by have:=hs k e;omega)⟩
end Go.Proofs.YtmmdlgjmplddiaaGreat
namespace Go.Proofs.YtmmdlgjmplddiaaGreat
open Go.RowKit
attribute [local go_sem ↓] Go.wp_at_zero Go.wp_at_succ
def strR (_:World) (r:List Value) (x:ByteArray):Prop:=r=[.string x]
theorem zmR {w w':World}{r:List Value}{x:ByteArray} (h:strR w r x):strR w' r x:=h
abbrev zcK (q:Option Nat) (w:World) (a:Option Addr) (xs:List ByteArray):Prop:=zaD strR q 9 1 w a xs
theorem zcK.below {q:Option Nat}{w w':World}{a:Option Addr}{xs:List ByteArray} (h:zcK q w a xs) (hb:Below w.heap.size w w'):zcK q w' a xs:=zaD.below h (fun _ _ _ h=>zmR h) hb
theorem zcK.get {q:Option Nat}{w:World}{a:Option Addr}{xs:List ByteArray}{i:Nat}{x:ByteArray} (h:zcK q w a xs) (hi:xs[i]?=some x):∃ b o,a=some ⟨b,o,none⟩∧Qb q w 9 b∧w.cell? ⟨b,o+i,none⟩=some (.string x):=by
 obtain ⟨b,o,r,h1,h2,h3,h4,h5⟩:=h i x hi
 unfold strR at h5
 subst h5
 exact ⟨b,o,h1,h2,by simpa using h4 0 _ rfl⟩
set_option maxHeartbeats 800000 in
theorem zg4 (s:ByteArray) (a:Option Addr) (c:Nat) (xs:List ByteArray) (w:World) {q:Option Nat} (hv:zcK q w a xs) (hl:xs.length≤1048576) :
  Calls Tryz.prog 145 #[.string s,.slice a xs.length c] w fun e w'=>e=.returned (.bool (memB s xs))∧w'=w:=by
 go_enter Tryz.func145,Tryz.ntmps145
 go_wp2
 go_loopw [9] (fun i wr=>∃ (k:Nat),k≤xs.length∧i=.int .i64 k∧memB s xs=memB s (xs.drop k)∧wr=w) (fun i _=>xs.length - (intOf i).toNat)
 case atStart=>exact ⟨0,by omega,rfl,rfl,rfl⟩
 case round=>
  obtain ⟨k,hk,rfl,hG,hb⟩:=hrel
  subst hb
  have HG:Hid (memB s xs=memB s (xs.drop k)):=hG
  clear hG
  by_cases hkl:k<xs.length
  ·obtain ⟨x,hxk⟩:∃ x,xs[k]?=some x:=⟨xs[k],by simp [hkl]⟩
   obtain ⟨b,o,rfl,hq,c0⟩:=hv.get hxk
   have HD:Hid (xs.drop k=x :: xs.drop (k+1)):=zak hxk
   cases e1:(s.toList==x.toList)
   all_goals go_wp2
   ·go_roundw
    case rel=>
     refine ⟨k+1,by omega,by go_num,?_,(by first | rfl | trivial)⟩
     rw [zaL] at e1
     have:x≠s:=fun h=>by subst h;simp at e1
     rw [HG.out,HD.out]
     simp [memB,this]
    case measure=>simp [intOf];omega
   ·go_ret
    rw [zaL] at e1
    have e2:s=x:=by simpa using e1
    exact ⟨zac (by rw [HG.out,HD.out];simp [memB,e2]),rfl⟩
  ·go_wp2
   go_ret
   exact ⟨zac (by rw [HG.out,List.drop_eq_nil_of_le (by omega)];rfl),rfl⟩
set_option maxHeartbeats 800000 in
theorem zca (a:Option Addr) (c:Nat) (es:List Ex) (S:List Sp) (x:Nat) (s:Sp) (w:World) {q:Option Nat} (hv:zbw q w a es) (hS:Spans es S) (hx:S[x]?=some s) :
  Calls Tryz.prog 146 #[.slice a es.length c,.int .i64 (x:Int)] w fun e w'=>e=.returned (.int .i64 (s.1:Int))∧w'=w:=by
 have hSl:=hS.1
 go_enter Tryz.func146,Tryz.ntmps146
 go_wp2
 go_loopw [1] (fun i wr=>∃ (k:Nat) (t:Sp),i=.int .i64 k∧S[k]?=some t∧t.1=s.1∧wr=w) (fun i _=>(intOf i).toNat)
 case atStart=>exact ⟨x,s,rfl,hx,rfl,rfl⟩
 case round=>
  obtain ⟨k,t,rfl,hk,ht,hb⟩:=hrel
  subst hb
  have hkS:k<S.length:=(List.getElem?_eq_some_iff.1 hk).1
  obtain ⟨e,hek⟩:∃ e,es[k]?=some e:=⟨es[k]'(by omega),by simp⟩
  have hkl:k<es.length:=by omega
  obtain ⟨b,o,rfl,hq,c0,c1,c2,c3,c4,c5,c6,c7⟩:=hv.get hek
  by_cases hk2:e.kind=2
  ·obtain ⟨ea,eb,sa,sb,e1,e2,h1,h2,h3,h4,h5⟩:=hS.op hk hek hk2
   rw [e1] at c6
   go_wp2
   go_roundw
   case rel=>exact ⟨ea,sa,rfl,h3,(by rw [← ht,h5]),(by first | rfl | trivial)⟩
   case measure=>simp [intOf];omega
  ·have h5:=hS.leaf hk hek hk2
   go_wp2
   go_ret
   refine ⟨?_,rfl⟩
   rw [← ht,h5]
   rfl
set_option maxHeartbeats 800000 in
theorem zgK (a:Option Addr) (c:Nat) (es:List Ex) {q:Option Nat} (x ea eb da db:Nat) (e:Ex) (w:World) (hv:zbw q w a es) (hek:es[x]?=some e) (hk2:e.kind=2) (e1:e.a=(ea:Int)) (e2:e.b=(eb:Int)) (d1:da≤20) (d2:db≤20)
  (I1:Calls Tryz.prog 167 #[.slice a es.length c,.int .i64 (ea:Int)] w fun e w'=>e=.returned (.int .i64 (da:Int))∧w'=w)
  (I2:Calls Tryz.prog 167 #[.slice a es.length c,.int .i64 (eb:Int)] w fun e w'=>e=.returned (.int .i64 (db:Int))∧w'=w) :
  Calls Tryz.prog 167 #[.slice a es.length c,.int .i64 (x:Int)] w fun e w'=>e=.returned (.int .i64 ((1+max da db:Nat):Int))∧w'=w:=by
 have hkl:x<es.length:=(List.getElem?_eq_some_iff.1 hek).1
 obtain ⟨b,o,rfl,hq,c0,c1,c2,c3,c4,c5,c6,c7⟩:=hv.get hek
 rw [e1] at c6
 rw [e2] at c7
 have tok:True:=trivial
 clear hq c1 c2 c3 c4 c5 hv e1 e2 hek
 by_cases hlt:(da:Int)<(db:Int)
 all_goals
  go_enter Tryz.func167,Tryz.ntmps167
  go_wp2_with (first | (go_at_call 167;have _t:=tok;refine I1.mono ?_;rintro e' w1 ⟨rfl,hb1⟩;subst hb1;clear tok) | (go_at_call 167;refine I2.mono ?_;rintro e'' w2 ⟨rfl,hb2⟩;subst hb2))
  go_ret
  refine ⟨zbk ?_,rfl⟩
  omega
set_option maxHeartbeats 800000 in
theorem zfy (a:Option Addr) (c:Nat) (es:List Ex) (S:List Sp) {q:Option Nat} (w:World) (hv:zbw q w a es) (hS:Spans es S):∀ (x:Nat) (s:Sp),S[x]?=some s →
  Calls Tryz.prog 167 #[.slice a es.length c,.int .i64 (x:Int)] w fun e w'=>e=.returned (.int .i64 (s.2:Int))∧w'=w:=by
 have hSl:=hS.1
 intro x
 induction x using Nat.strongRecOn with
 | _ x ih=>
  intro s hk
  have hkS:x<S.length:=(List.getElem?_eq_some_iff.1 hk).1
  obtain ⟨e,hek⟩:∃ e,es[x]?=some e:=⟨es[x]'(by omega),by simp⟩
  have hkl:x<es.length:=by omega
  by_cases hk2:e.kind=2
  ·obtain ⟨ea,eb,sa,sb,e1,e2,h1,h2,h3,h4,h5⟩:=hS.op hk hek hk2
   have:=zgK a c es x ea eb sa.2 sb.2 e w hv hek hk2 e1 e2 (hS.depth_le ea sa h3) (hS.depth_le eb sb h4) (ih ea (by omega) sa h3) (ih eb (by omega) sb h4)
   rw [h5]
   exact this
  ·have h5:=hS.leaf hk hek hk2
   obtain ⟨b,o,rfl,hq,c0,c1,c2,c3,c4,c5,c6,c7⟩:=hv.get hek
   go_enter Tryz.func167,Tryz.ntmps167
   go_wp2
   go_ret
   exact ⟨by rw [h5];rfl,rfl⟩
set_option maxHeartbeats 800000 in
theorem zfW (x:Ru) (a_pats:Option Addr) (c_pats:Nat) (a_exprs:Option Addr) (c_exprs:Nat) (a_acts:Option Addr) (c_acts:Nat) {q:Option Nat} (w:World) (h_pats:zcf q w a_pats x.pats) (hl:x.pats.length≤1048576) :
  Calls Tryz.prog 117 #[.agg #[.string x.name,.int .i64 x.sal,.slice a_pats x.pats.length c_pats,.slice a_exprs x.exprs.length c_exprs,.slice a_acts x.acts.length c_acts]] w fun e w'=>
   e=.returned (.int .i64 (positives x.pats:Int))∧Below w.heap.size w w':=by
 go_enter Tryz.func117,Tryz.ntmps117
 go_wp2
 go_loopw [3,9] (fun l i wr=>∃ (k:Nat),k≤x.pats.length∧i=.int .i64 k∧l=.int .i64 (positives (x.pats.take k):Int)∧Below w.heap.size w wr) (fun _ i _=>x.pats.length - (intOf i).toNat)
 case atStart=>exact ⟨0,by omega,rfl,by simp [positives],(Below.refl _ _).alloc (Nat.le_refl _) _⟩
 case round=>
  obtain ⟨k,hk,rfl,rfl,hb⟩:=hrel
  have hp:positives (x.pats.take k)≤x.pats.length:=Nat.le_trans List.countP_le_length (by simp;omega)
  by_cases hkl:k<x.pats.length
  ·obtain ⟨p,hpk⟩:∃ p,x.pats[k]?=some p:=⟨x.pats[k],by simp [hkl]⟩
   obtain ⟨b,o,a_terms,c_terms,rfl,hq,c0,c1,c2,h_terms⟩:=(h_pats.below hb).get hpk
   have HT:Hid (x.pats.take (k+1)=x.pats.take k ++ [p]):=zbW _ _ _ hpk
   have B1:∀ o,Below w.heap.size w (wr.alloc o):=fun o=>hb.alloc hb.size _
   cases hn:p.neg
   all_goals
    rw [hn] at c0
    go_wp2
    go_roundw
    case rel=>exact ⟨k+1,by omega,by go_num,by rw [HT.out];simp [positives,pos1,hn],B1 _⟩
    case measure=>simp [intOf];omega
  ·go_wp2
   go_ret
   rw [List.take_of_length_le (by omega)]
   exact ⟨rfl,hb⟩
end Go.Proofs.YtmmdlgjmplddiaaGreat
namespace Go.Proofs.YtmmdlgjmplddiaaGreat
open Go.RowKit
def geI (x y:Int):Bool:=decide (y≤x)
def recy (xs:List Int):List Int:=xs.mergeSort geI
def Falls (ys:List Int):Prop:=ys.Pairwise (fun x y=>y≤x)
theorem zhx (xs:List Int):(recy xs).Perm xs:=List.mergeSort_perm xs geI
theorem ze3 (xs:List Int):(recy xs).length=xs.length:=(zhx xs).length_eq
theorem zkI (xs:List Int):Falls (recy xs):=by
 have tr:∀ a b c:Int,geI a b=true→geI b c=true→geI a c=true:=fun a b c h1 h2=>by simp only [geI,decide_eq_true_eq] at *;omega
 have to:∀ a b:Int,(geI a b || geI b a)=true:=fun a b=>by simp only [geI,Bool.or_eq_true,decide_eq_true_eq];omega
 have h:=List.pairwise_mergeSort tr to xs
 unfold Falls recy
 exact h.imp (fun hab=>by simpa [geI] using hab)
theorem zmk {xs ys:List Int} (hp:ys.Perm xs) (hs:Falls ys):ys=recy xs:=
 List.Perm.eq_of_pairwise (le:=fun x y:Int=>y≤x) (fun a b _ _ h1 h2=>by omega) hs (zkI xs) (hp.trans (zhx xs).symm)
theorem znF {ys:List Int} (h:Falls ys) {i j:Nat}{x y:Int} (hij:i<j) (hx:ys[i]?=some x) (hy:ys[j]?=some y):y≤x:=by
 obtain ⟨hi,rfl⟩:=List.getElem?_eq_some_iff.1 hx
 obtain ⟨hj,rfl⟩:=List.getElem?_eq_some_iff.1 hy
 exact (List.pairwise_iff_getElem.1 h) i j hi hj hij
theorem zd9 {ys:List Int} (h:Falls ys) {k:Nat}{t:Int} (hk:k≤ys.length) (hd:∀ y∈ys.drop k,y<t) (hl:k=0∨∃ x,ys[k - 1]?=some x∧t≤x):Falls (ys.take k ++ [t] ++ ys.drop k):=by
 have ht:∀ x∈ys.take k,t≤x:=by
  intro x hx
  rcases hl with rfl | ⟨z,hz,htz⟩
  ·simp at hx
  ·obtain ⟨i,hi,rfl⟩:=List.getElem_of_mem hx
   rw [List.length_take] at hi
   have hi':i<ys.length:=by omega
   have hik:i<k:=by omega
   have hxi:(ys.take k)[i]'(by rw [List.length_take];exact hi)=ys[i]:=by simp
   rw [hxi]
   by_cases he:i=k - 1
   ·subst he
    rw [List.getElem?_eq_getElem hi'] at hz
    injection hz with hz
    omega
   ·have:=znF h (i:=i) (j:=k - 1) (by omega) (List.getElem?_eq_getElem hi') hz
    omega
 unfold Falls at *
 rw [List.append_assoc,List.pairwise_append]
 refine ⟨h.sublist (List.take_sublist _ _),?_,?_⟩
 ·rw [List.singleton_append,List.pairwise_cons]
  exact ⟨fun y hy=>Int.le_of_lt (hd y hy),h.sublist (List.drop_sublist _ _)⟩
 ·intro x hx y hy
  have h1:=ht x hx
  rcases List.mem_append.1 hy with hy | hy
  ·simp at hy
   subst hy
   exact h1
  ·have:=hd y hy
   omega
theorem zeZ (ys:List Int) (k:Nat) (t:Int) {zs:List Int} (h:ys.Perm zs):(ys.take k ++ [t] ++ ys.drop k).Perm (zs ++ [t]):=by
 have h1:(ys.take k ++ [t] ++ ys.drop k).Perm (ys.take k ++ ys.drop k ++ [t]):=by
  rw [List.append_assoc,List.append_assoc]
  exact List.Perm.append_left _ List.perm_append_comm
 rw [List.take_append_drop] at h1
 exact h1.trans (h.append_right _)
def recA (xs:List Int):List Int:=if xs.length≤1000 then recy xs else []
theorem ze6 (xs:List Int):(recA xs).length≤xs.length:=by
 unfold recA
 split
 ·rw [ze3];exact Nat.le_refl _
 ·exact Nat.zero_le _
theorem zjI {xs:List Int} (h:xs.length≤1000):recA xs=recy xs:=if_pos h
theorem zmw {xs:List Int} (h:¬ xs.length≤1000):recA xs=[]:=if_neg h
end Go.Proofs.YtmmdlgjmplddiaaGreat
