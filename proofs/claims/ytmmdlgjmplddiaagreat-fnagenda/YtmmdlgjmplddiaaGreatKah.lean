/-
  OUR OWN TEXT. Blk, To0, Eq0, one behind the other.
-/
import Derived.Test.YtmmdlgjmplddiaaGreatKag
import Derived.Deep.MidRow
import Derived.Deep.RegionLaw
import Derived.Deep.RegionHeld3
import Derived.Deep.DrawnRows
namespace Go.Proofs.YtmmdlgjmplddiaaGreat
open Go.RowKit
structure Turned (w w':World) (b:Nat):Prop where
 os:w'.os=w.os
 tape:w'.tape=w.tape
 output:w'.output=w.output
 size:w'.heap.size=w.heap.size
 block:∀ k,k≠b→w'.heap[k]?=w.heap[k]?
theorem Turned.setCells:∀ (vs:List Value) (o:Nat) (w:World) (b:Nat),Turned w (w.setCells b o vs) b
 | [],_,_,_=>⟨rfl,rfl,rfl,rfl,fun _ _=>rfl⟩
 | v :: r,o,w,b=>by
  have h:=Turned.setCells r (o+1) (w.setCell ⟨b,o,none⟩ v) b
  exact ⟨h.os,h.tape,h.output,h.size.trans (by simp [World.setCell]),fun k hk=>(h.block k hk).trans (Below.heap_setCell _ _ _ _ hk)⟩
theorem Turned.below {w w':World}{b B:Nat} (h:Turned w w' b) (hB:B≤b):Below B w w':=
 ⟨h.os,h.tape,h.output,Nat.le_of_eq h.size.symm,fun k hk=>h.block k (by omega)⟩
theorem Turned.cell {w w':World}{b:Nat} (h:Turned w w' b) {p:Addr} (hp:p.block≠b):w'.cell? p=w.cell? p:=World.cell?_of_block (w:=w) (h.block _ hp)
theorem zbH {w:World}{g o:Nat}{c:Array Value}{t:TypeId}{fr:Nat × Nat} (h:w.heap[g]?=some (.cells c t fr)) (vs:List Value) (hfit:o+vs.length≤c.size) :
  (w.setCells g o vs).heap[g]?=some (.cells (c.toList.take o ++ (vs ++ c.toList.drop (o+vs.length))).toArray t fr):=by
 obtain ⟨c',h1,h2,h3,h4⟩:=zb6 vs o w g c t fr h
 rw [h1]
 congr 2
 apply Array.ext'
 apply List.ext_getElem?
 intro i
 rw [Array.getElem?_toList]
 by_cases hi:i<o
 ·rw [h4 i (Or.inl hi)]
  simp only [List.getElem?_append,List.length_take,Array.length_toList,List.getElem?_take]
  rw [if_pos (by omega),if_pos hi,Array.getElem?_toList]
 ·by_cases hj:i<o+vs.length
  ·have hx:vs[i - o]?=some (vs[i - o]'(by omega)):=List.getElem?_eq_getElem _
   have:=h3 (i - o) _ hx (by omega)
   rw [show o+(i - o)=i by omega] at this
   rw [this]
   simp only [List.getElem?_append,List.length_take,Array.length_toList]
   rw [if_neg (by omega),if_pos (by omega),show i - min o c.size=i - o by omega,hx]
  ·rw [h4 i (Or.inr (by omega))]
   simp only [List.getElem?_append,List.length_take,Array.length_toList,List.getElem?_drop]
   rw [if_neg (by omega),if_neg (by omega),show o+vs.length+(i - min o c.size - vs.length)=i by omega,Array.getElem?_toList]
theorem zfT {w:World}{b:Nat}{c:Array Value}{t:TypeId} (h:w.heap[b]?=some (.cells c t (0,0))) {o n:Nat} (hn:o+n≤c.size):w.there b o n:=fun j hj=>by
 have hlt:o+j<c.size:=by omega
 simp [World.cell?,World.frozen?,h,hlt]
theorem zdn {w:World}{b:Nat}{c:List Value}{t:TypeId}{fr:Nat × Nat} (h:w.heap[b]?=some (.cells c.toArray t fr)):w.rangeAt b 0 c:=fun j v hv=>by
 simp [World.cell?,h,hv]
theorem zal {P:Program}{ops:Array Oper}{rest:List Oper}{op:Oper}{a:Act}{w:World}{Q:Exit→Act→World→Prop} (hgd:op.guard=none) (ty:TypeId) (x y:Operand) (ho:op.op=.store ty x y)
  (b:Nat) (L:List Value) (hx:a.eval x=.pointer (some ⟨b,0,none⟩)) (hy:a.eval y=.agg L.toArray) (c:Array Value) (t:TypeId) (hb:w.heap[b]?=some (.cells c t (0,0)))
  (hs:c.size=L.length) (hi:(P.info? ty).map (·.size)=some L.length) (h1:∀ v∈L,v.oneCell'=true)
  (h:∀ w',Hid (w'.heap[b]?=some (.cells L.toArray t (0,0)))→Hid (Turned w w' b)→wpList P ops Q rest (a.put op.dst undef) w'):wpList P ops Q (op :: rest) a w:=by
 refine wpList_store_mid hgd ty x y ho b 0 L.toArray hx hy (zfT hb (by simp;omega)) (by simpa using hi) (all_oneCell_toArray h1) (h _ ?_ (Turned.setCells _ _ _ _))
 show _=_
 have:=zbH hb (o:=0) L (by omega)
 rw [this]
 simp [List.drop_eq_nil_of_le (show c.toList.length≤L.length by simp;omega)]
theorem zds {P:Program}{ops:Array Oper}{rest:List Oper}{op:Oper}{a:Act}{w:World}{Q:Exit→Act→World→Prop} (hgd:op.guard=none) (ty:TypeId) (x:Operand) (ho:op.op=.load ty x)
  (b:Nat) (L:List Value) (hx:a.eval x=.pointer (some ⟨b,0,none⟩)) (t:TypeId) (fr:Nat × Nat) (hb:w.heap[b]?=some (.cells L.toArray t fr)) (d:TypeDesc)
  (hu:P.underlying ty=some d) (hd:d.isRow=true) (hi:(P.info? ty).map (·.size)=some L.length)
  (h:wpList P ops Q rest (a.put op.dst (.agg L.toArray)) w):wpList P ops Q (op :: rest) a w:=
 wpList_load_mid hgd ty x ho b 0 hx L d (zdn hb) hu hd hi h
theorem zgR {P:Program}{w:World}{ops:Array Oper}{o:Oper}{a:Act}{K:Act→World→Prop}{Q:Exit→Act→World→Prop}{E:Prop} (hgd:o.guard=none) (d s:Operand) (dT sT:TypeId)
  (ho:o.op=.call { callee:=.builtin .copy,args:=#[d,s],argTypes:=#[dT,sT] }) (elem:TypeId) (m:Nat) (hu:P.underlying dT=some (.slice elem)) (hs:(P.info? elem).map (·.size)=some m)
  (b off dLen dCap:Nat) (sp:Option Addr) (sLen sCap:Nat) (hd:a.eval d=.slice (some ⟨b,off,none⟩) dLen dCap) (hsv:a.eval s=.slice sp sLen sCap)
  (c:Array Value) (t:TypeId) (hb:w.heap[b]?=some (.cells c t (0,0))) (cs:List Value) (hn:cs.length=Nat.min sLen dLen * m) (hnil:sp=none→sLen=0)
  (hsrc:∀ a,sp=some a→∀ j v,cs[j]?=some v→w.cell? (a.add j)=some v) (hfit:off+cs.length≤c.size) (h1:∀ v∈cs,v.oneCell'=true)
  (h:∀ w',Hid (w'.heap[b]?=some (.cells (c.toList.take off ++ (cs ++ c.toList.drop (off+cs.length))).toArray t (0,0)))→Hid (Turned w w' b)→K (a.put o.dst (goInt (Nat.min sLen dLen))) w') :
  if Region.wanted o (yielded ops a.tmps)=true then Oper.wp P o a w K Q else E:=by
 have hw:Region.wanted o (yielded ops a.tmps)=true:=by simp [Region.wanted,hgd]
 rw [if_pos hw]
 have ht:=zfT hb hfit
 have hrun:=zhf (P:=P) w dT sT o.type elem b off dLen dCap sp sLen sCap m cs hu hs hn hnil hsrc (fun j hj=>(ht j hj).1) (fun j hj=>(ht j hj).2) h1
 unfold Oper.wp
 simp [execOp,ho,resolve,invoke,builtin,hd,hsv,hrun,Result.andThen]
 exact h _ (zbH hb cs hfit) (Turned.setCells _ _ _ _)
end Go.Proofs.YtmmdlgjmplddiaaGreat
namespace Go.Proofs.YtmmdlgjmplddiaaGreat
open Go.RowKit
theorem zpD:(Tryz.prog.info? 109).map (fun i=>(i.zero,i.size,i.bytes))=some (some (.agg #[.int .i64 0,.int .i64 0,.string ByteArray.empty]),3,32):=by kernel_rfl
end Go.Proofs.YtmmdlgjmplddiaaGreat
namespace Go.Proofs.YtmmdlgjmplddiaaGreat
open Go.RowKit
attribute [local go_sem ↓] Go.wp_at_zero Go.wp_at_succ
end Go.Proofs.YtmmdlgjmplddiaaGreat
