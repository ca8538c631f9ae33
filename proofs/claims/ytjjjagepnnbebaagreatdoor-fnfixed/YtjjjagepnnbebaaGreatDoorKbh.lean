/-
  OUR OWN TEXT. Mq7, Mq8, Px3, one behind the other.
-/
import Derived.Test.YtjjjagepnnbebaaGreatDoorKbd
import Derived.Deep.CutBlock
import Derived.Deep.DeepCutAuto
import Derived.Test.YtjjjagepnnbebaaGreatDoorKba
namespace Go.Proofs.YtjjjagepnnbebaaGreatDoor
open Go.RowKit
attribute [local go_sem ↓] Go.wp_at_zero Go.wp_at_succ
theorem MB.blocks{w w':World}{pb g:Nat}{W:List Wd}{c:Nat}{s:Ps}{R:List Value}(h:MB w pb g W c s R)(h1:w'.heap[pb]?=w.heap[pb]?)(h2:w'.heap[g]?=w.heap[g]?):MB w' pb g W c s R:=by
 obtain ⟨k,E,pos,G,hk,hs⟩:=h.st;exact ⟨⟨k,E,pos,h1.trans G,hk,hs⟩,h.wds.block h2,h.far,h.ok,h.ends,h.caps,h.len⟩
theorem World.drew_size'(w:World):w.drew.heap.size=w.heap.size:=rfl
theorem zmi(s:Ps):zbx (zaD s)=zbx s/\zaD (zaD s)=zaD s:=by
 cases s with
 | error f=>exact ⟨rfl,rfl⟩
 | ok l=>
  cases hr:zaj l with
  | error f=>rw[(zaY hr).2,(zaY hr).1];exact ⟨rfl,rfl⟩
  | ok q=>
   obtain ⟨x,r⟩:=q;rw[(look_ok hr).2];exact ⟨rfl,(look_ok hr).2⟩
theorem zm4{P:World->Prop}{w:World}{b:Nat}{t:TypeId}{cs:Array Value}{v0 E v2:Value}(I:w.heap[b]?=some (.cells cs t (0,0)))(hs:cs.size=3)(h:∀ G,G.heap[b]?=some (.cells [v0,E,v2].toArray t (0,0))->Turned w G b->P G):P ((((w.setCell ⟨b,0,none⟩ v0).setCell ⟨b,1,none⟩ E).setCell ⟨b,2,none⟩ v2).drew):=by
 have h1:=za0 I (o:=0) [v0,E,v2] (by simp;omega);have hd:cs.toList.drop (0+[v0,E,v2].length)=[]:=List.drop_eq_nil_of_le (by simp;omega);rw[hd]at h1;have ht:=Turned.setCells [v0,E,v2] 0 w b;exact h _ (h1.trans (by simp)) ⟨ht.os,ht.tape,ht.output,ht.size,ht.block⟩
def csL(code:Int)(pos:Nat)(v:Value):List Value:=[.int .i64 code,.int .i64 (pos:Int),v]
theorem ziH(code:Int)(pos:Nat)(a:Option Addr)(n c:Nat):∀ v∈csL code pos (.slice a n c),v.oneCell'=true:=by
 intro v hv;simp[csL]at hv;rcases hv with rfl | rfl | rfl <;> rfl
theorem zkg.owns{w:World}{base c:Nat}{a:Option Addr}{W:List Wd}(h:w.ownsRow base 102 4 (.slice a W.length c) W.length (wdsV W))(G:W≠[]):∃ g,a=some ⟨g,0,none⟩/\base<=g/\g<w.heap.size/\zkg w g W/\W.length<=c:=by
 obtain ⟨_,⟨h1,h2⟩ | ⟨g,cap,cur,h1,h2,h3,E,U,X,O⟩⟩:=h
 ·exact absurd (List.eq_nil_of_length_eq_zero h2) G
 injection h1 with e1 e2 e3;subst e3;refine ⟨g,e1,h2,zab h3,fun j x hx i v hv=>?_,E⟩;have hj:j<W.length:=(List.getElem?_eq_some_iff.1 hx).1;have hi:i<4:=by
  have:=(List.getElem?_eq_some_iff.1 hv).1;simpa[wdV] using this
 have hg:(wdsV W)[j * 4+i]?=some v:=by
  have:∀ (L:List Wd) (j:Nat),L[j]?=some x->(wdsV L)[j * 4+i]?=some v:=by
   intro L
   induction L with
   | nil=>intro j hj;simp at hj
   | cons y L I=>
    intro j hj
    cases j with
    | zero=>
     simp at hj;subst hj;simp only[wdsV,List.flatMap_cons,Nat.zero_mul,Nat.zero_add];rw[List.getElem?_append_left (by simpa[wdV] using hi)];exact hv
    | succ j=>
     simp at hj;have:=I j hj;simp only[wdsV,List.flatMap_cons];rw[List.getElem?_append_right (by simp[wdV];omega)];rw[show (j+1) * 4+i - (wdV y).length=j * 4+i by simp[wdV];omega];exact this
  exact this W j hx
 rw[<- O,List.getElem?_take]at hg;split at hg
 ·simp[World.cell?,h3];simpa using hg
 cases hg
theorem zkD:∀ (n:Nat) (l:Bs) (k:Nat),l.length<n->(za5 n l k).length<=l.length+1:=by
 intro n
 induction n with
 | zero=>intro l k h;omega
 | succ n I=>
  intro l k hn
  cases l with
  | nil=>simp[za5]
  | cons b r=>
   have hr:r.length<n:=by simp at hn;omega
   have i1:=I r (k+1) hr;unfold za5;by_cases h1:zcJ b=true
   ·rw[if_pos h1];simp only[List.length_cons];omega
   rw[if_neg h1];by_cases h2:b=59
   ·rw[if_pos h2];have hp:1<=zbs zcA (b :: r):=zdP (by rw[h2];exact line59);have hd:((b :: r).drop (zbs zcA (b :: r))).length<n:=by rw[List.length_drop];simp only[List.length_cons]at *;omega
    have:=I _ (k+zbs zcA (b :: r)) hd;rw[List.length_drop]at this;simp only[List.length_cons]at *;omega
   rw[if_neg h2];by_cases h3:b=40
   ·rw[if_pos h3];simp only[List.length_cons];omega
   rw[if_neg h3];by_cases E:b=41
   ·rw[if_pos E];simp only[List.length_cons];omega
   rw[if_neg E];by_cases G:b.toNat<33∨126<b.toNat
   ·rw[if_pos G];simp only[List.length_cons];omega
   rw[if_neg G];have hp:1<=zbs za2 (b :: r):=zdP (zeD h2 h3 E G);have hd:((b :: r).drop (zbs za2 (b :: r))).length<n:=by rw[List.length_drop];simp only[List.length_cons]at *;omega
   have:=I _ (k+zbs za2 (b :: r)) hd;rw[List.length_drop]at this;simp only[List.length_cons]at *;omega
theorem zkl(src:Bs):(zbd src).length<=src.length+1:=by
 unfold zbd zaQ;have:=zkD (src.length+1 - 0) (src.drop 0) 0 (by simp);simpa using this
theorem CO.base{w:World}{B E:Nat}{a:Option Addr}{c:Nat}{M:List CdX}(h:CO w B a c M)(hb:E<=B):CO w E a c M:=⟨zaO h.row hb,fun x hx=>by
 obtain ⟨la,lc,h1,h2⟩:=h.all x hx;exact ⟨la,lc,h1,zaO h2 hb⟩,h.pair⟩
theorem zl4{s:Ps}{l:List Wd}(h:zaD s=.ok l):ze5 (zaD s)=0:=by rw[h];rfl
end Go.Proofs.YtjjjagepnnbebaaGreatDoor
namespace Go.Proofs.YtjjjagepnnbebaaGreatDoor
def zdT(l:List Wd):Prop:=WsOk l/\∀ x∈l,WdOk x
def zje{α:Type}(r:Px α):Prop:=match r with
 | .error f=>f.1≠0
 | .ok (_,l)=>zdT l
def Fine{α:Type}(p:List Wd->Px α):Prop:=∀ l,zdT l->zje (p l)
theorem Fine.next:Fine zaj:=fun l h=>by
 cases l with
 | nil=>exact absurd rfl h.1.ne
 | cons x r=>
  cases hr:zaj (x :: r) with
  | error f=>
   unfold zaj badW at hr;by_cases G:x.kind=7
   ·simp[G]at hr;rw[<- hr];show (1:Int)≠0;decide
   ·by_cases E:x.kind=8
    ·simp[E]at hr;rw[<- hr];show (2:Int)≠0;decide
    ·simp[G,E]at hr
  | ok q=>
   obtain ⟨y,I⟩:=q;obtain ⟨rfl,rfl⟩:=za8 hr;show zdT _;split
   ·exact h
   exact ⟨h.1.tail (by assumption),fun z hz=>h.2 z (List.mem_cons_of_mem _ hz)⟩
theorem Fine.take(k:Int):Fine (zai k):=fun l h=>by
 have:=Fine.next l h;unfold zai
 cases hr:zaj l with
 | error f=>rw[hr]at this;exact this
 | ok q=>
  obtain ⟨x,r⟩:=q;rw[hr]at this;simp only;split
  ·exact this
  show (3:Int)≠0;decide
theorem Fine.and{α β:Type}{p:List Wd->Px α}{k:α->List Wd->Px β}(hp:Fine p)(hk:∀ x,Fine (k x)):Fine (fun l=>andP (p l) k):=fun l h=>by
 have:=hp l h;show zje (andP (p l) k)
 cases hr:p l with
 | error f=>rw[hr]at this;exact this
 | ok q=>
  obtain ⟨x,r⟩:=q;rw[hr]at this;exact hk x r this
theorem Fine.ret{α:Type}(x:α):Fine (fun l=>(.ok (x,l):Px α)):=fun _ h=>h
theorem Fine.cls:Fine za3:=fun l h=>by
 have:=Fine.take 97 l h;unfold za3
 cases hr:zai 97 l with
 | error f=>rw[hr]at this;exact this
 | ok q=>
  obtain ⟨x,r⟩:=q;rw[hr]at this;simp only;split
  ·show (3:Int)≠0;decide
  exact this
theorem Fine.list{α:Type}{rd:List Wd->Px α}(E:Fine rd):∀ n,Fine (zbi rd n):=by
 intro n
 induction n with
 | zero=>
  intro l h;have:=Fine.next l h;unfold zbi
  cases hr:zaj l with
  | error f=>rw[hr]at this;exact this
  | ok q=>
   obtain ⟨x,r⟩:=q;rw[hr]at this;simp only;split
   ·exact this
   ·split
    ·show (3:Int)≠0;decide
    ·show (4:Int)≠0;decide
 | succ n G=>
  intro l h;have:=Fine.next l h;unfold zbi
  cases hr:zaj l with
  | error f=>rw[hr]at this;exact this
  | ok q=>
   obtain ⟨x,r⟩:=q;rw[hr]at this;simp only;split
   ·exact this
   have h2:=E l h
   cases hv:rd l with
   | error f=>rw[hv]at h2;exact h2
   | ok q=>
    obtain ⟨v,l1⟩:=q;rw[hv]at h2;have h3:=G l1 h2;simp only
    cases hp:zbi rd n l1 with
    | error f=>rw[hp]at h3;exact h3
    | ok q=>
     obtain ⟨vs,l2⟩:=q;rw[hp]at h3;exact h3
theorem zeC(src:Bs):zdT (zbd src):=by
 obtain ⟨h1,h2⟩:=zf2 src 0 (Nat.zero_le _);exact ⟨h2,fun x hx=>(h1 x hx).1⟩
end Go.Proofs.YtjjjagepnnbebaaGreatDoor
