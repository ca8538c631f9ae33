/-
  OUR OWN TEXT. Px1, Px2, one behind the other.
-/
import Derived.Test.YtjjjagepnnbebaaGreatDoorKap
namespace Go.Proofs.YtjjjagepnnbebaaGreatDoor
abbrev Flt:=Int × Nat
abbrev Px(α:Type):=Except Flt (α × List Wd)
def andP{α β:Type}(r:Px α)(f:α->List Wd->Px β):Px β:=match r with
 | .error e=>.error e
 | .ok (x,l)=>f x l
def pkW(x:Wd):Int:=if x.kind=0 then 0 else if x.kind=1 then 40 else if x.kind=2 then 41 else pkind x.text
def ptW(x:Wd):Bs:=if x.kind=0 then [] else if x.kind=1 then [] else if x.kind=2 then [] else ptext x.text
def badW(x:Wd):Option Flt:=if x.kind=7 then some (1,x.pos) else if x.kind=8 then some (2,x.pos) else none
def zaj:List Wd->Px Wd
 | []=>.error (0,0)
 | x :: r=>match badW x with
  | some f=>.error f
  | none=>.ok (x,if x.kind=0 then x :: r else r)
def zai(k:Int)(l:List Wd):Px Wd:=match zaj l with
 | .error f=>.error f
 | .ok (x,r)=>if pkW x=k then .ok (x,r) else .error (3,x.pos)
def WdOk(x:Wd):Prop:=(x.text=[]/\x.num=0/\(x.kind=0∨x.kind=1∨x.kind=2∨x.kind=7))∨(x.kind=mkind x.text/\x.num=mnum x.text)
theorem zcT(t:Bs):mkind t≠0/\mkind t≠1/\mkind t≠2/\mkind t≠7:=by
 unfold mkind
 repeat' split
 all_goals decide
theorem zqT(t:Bs):decide (t∈opTx)=decide (zaH t≠0):=by
 by_cases h:zaH t=0
 ·rw[show decide (zaH t≠0)=false from decide_eq_false fun G=>G h];refine decide_eq_false fun hm=>?_;obtain ⟨i,hi,e⟩:=List.getElem_of_mem hm;have I:i<6:=hi;have:=zfR (t:=t) (n:=i+1) (by omega) (by omega) (by rw[<- e];simp[List.getD,hi]);omega
 rw[show decide (zaH t≠0)=true from decide_eq_true h];refine decide_eq_true ?_;apply Classical.byContradiction;intro hm;refine h (zhi fun j hj e=>hm ?_);rw[<- e];have E:j<opTx.length:=hj;simp[List.getD,E]
theorem zcV(t:Bs):pkind t = -1 ↔ mkind t=8:=by
 have U:=zqT t;unfold pkind mkind za7;rw[U];by_cases h1:(zbj t).isSome=true
 ·simp[h1]
 by_cases h2:gSym t=true
 ·by_cases h3:zbW t=true <;> simp[h1,h2,h3]
 by_cases h3:zbW t=true
 ·simp[h1,h2,h3]
 by_cases E:zaH t≠0
 ·simp[h1,h2,h3,E]
 by_cases I:t∈arTx
 ·simp[h1,h2,h3,E,I]
 by_cases G:t=[95]
 ·rw[if_neg h1,if_neg h2,if_neg h3,if_neg E,if_neg I,if_pos G,if_neg h1,if_neg h3,if_neg h2,if_pos (by rw[decide_eq_true G];rfl)];decide
 by_cases O:t=[61,62]
 ·rw[if_neg h1,if_neg h2,if_neg h3,if_neg E,if_neg I,if_neg G,if_pos O,if_neg h1,if_neg h3,if_neg h2,if_pos (by rw[decide_eq_true O];simp)];decide
 simp[h1,h2,h3,E,I,G,O]
def WsOk(l:List Wd):Prop:=∃ (pre:List Wd) (e:Wd),l=pre ++ [e]/\e.kind=0/\∀ x∈pre,x.kind≠0
theorem WsOk.cons{l:List Wd}{x:Wd}(h:WsOk l)(hx:x.kind≠0):WsOk (x :: l):=by
 obtain ⟨pre,e,h1,h2,h3⟩:=h;refine ⟨x :: pre,e,by rw[h1];rfl,h2,fun y hy=>?_⟩;rcases List.mem_cons.1 hy with rfl | hy
 ·exact hx
 exact h3 y hy
theorem WsOk.tail{l:List Wd}{x:Wd}(h:WsOk (x :: l))(hx:x.kind≠0):WsOk l:=by
 obtain ⟨pre,e,h1,h2,h3⟩:=h
 cases pre with
 | nil=>
  simp at h1;exact absurd (by rw[h1.1];exact h2) hx
 | cons y pre=>
  simp at h1;exact ⟨pre,e,h1.2,h2,fun z hz=>h3 z (List.mem_cons_of_mem _ hz)⟩
theorem WsOk.ne{l:List Wd}(h:WsOk l):l≠[]:=by
 obtain ⟨pre,e,h1,_⟩:=h;rw[h1];simp
theorem zmx:∀ (n:Nat) (l:Bs) (k:Nat),l.length<n->(∀ x∈za5 n l k,WdOk x/\x.text.length<=l.length)/\WsOk (za5 n l k):=by
 intro n
 induction n with
 | zero=>intro l k h;omega
 | succ n I=>
  intro l k hn
  cases l with
  | nil=>
   refine ⟨fun x hx=>?_,[],⟨0,k,[],0⟩,rfl,rfl,fun x hx=>by simp at hx⟩;simp[za5]at hx;subst hx;exact ⟨.inl ⟨rfl,rfl,.inl rfl⟩,by simp⟩
  | cons b r=>
   have hr:r.length<n:=by simp at hn;omega
   have E:∀ (kd:Int),(kd=1∨kd=2∨kd=7)->(∀ x∈(⟨kd,k,[],0⟩ :: za5 n r (k+1):List Wd),WdOk x/\x.text.length<=(b :: r).length)/\WsOk (⟨kd,k,[],0⟩ :: za5 n r (k+1)):=by
    intro kd hk;obtain ⟨h1,h2⟩:=I r (k+1) hr;refine ⟨fun x hx=>?_,h2.cons ?_⟩
    ·rcases List.mem_cons.1 hx with rfl | hx
     ·exact ⟨.inl ⟨rfl,rfl,.inr hk⟩,by simp⟩
     obtain ⟨h3,G⟩:=h1 x hx;exact ⟨h3,by simp;omega⟩
    show kd≠0;omega
   unfold za5;by_cases h1:zcJ b=true
   ·rw[if_pos h1];obtain ⟨h2,h3⟩:=I r (k+1) hr;exact ⟨fun x hx=>⟨(h2 x hx).1,by have:=(h2 x hx).2;simp;omega⟩,h3⟩
   rw[if_neg h1];by_cases h2:b=59
   ·rw[if_pos h2];have hp:1<=zbs zcA (b :: r):=zdP (by rw[h2];exact line59);have hd:((b :: r).drop (zbs zcA (b :: r))).length<n:=by rw[List.length_drop];simp only[List.length_cons]at *;omega
    obtain ⟨h3,G⟩:=I _ (k+zbs zcA (b :: r)) hd;exact ⟨fun x hx=>⟨(h3 x hx).1,by have:=(h3 x hx).2;rw[List.length_drop]at this;omega⟩,G⟩
   rw[if_neg h2];by_cases h3:b=40
   ·rw[if_pos h3];exact E 1 (.inl rfl)
   rw[if_neg h3];by_cases G:b=41
   ·rw[if_pos G];exact E 2 (.inr (.inl rfl))
   rw[if_neg G];by_cases O:b.toNat<33∨126<b.toNat
   ·rw[if_pos O];exact E 7 (.inr (.inr rfl))
   rw[if_neg O];have hp:1<=zbs za2 (b :: r):=zdP (zeD h2 h3 G O);have hd:((b :: r).drop (zbs za2 (b :: r))).length<n:=by rw[List.length_drop];simp only[List.length_cons]at *;omega
   obtain ⟨U,X⟩:=I _ (k+zbs za2 (b :: r)) hd;refine ⟨fun x hx=>?_,X.cons (zcT _).1⟩;rcases List.mem_cons.1 hx with rfl | hx
   ·exact ⟨.inr ⟨rfl,rfl⟩,zlq za2 (b :: r)⟩
   exact ⟨(U x hx).1,by have:=(U x hx).2;rw[List.length_drop]at this;omega⟩
theorem zf2(s:Bs)(k:Nat)(hk:k<=s.length):(∀ x∈zaQ s k,WdOk x/\x.text.length<=s.length)/\WsOk (zaQ s k):=by
 obtain ⟨h1,h2⟩:=zmx (s.length+1 - k) (s.drop k) k (by rw[List.length_drop];omega);exact ⟨fun x hx=>⟨(h1 x hx).1,by have:=(h1 x hx).2;rw[List.length_drop]at this;omega⟩,h2⟩
theorem zc4{l r:List Wd}{x:Wd}(h:zaj l=.ok (x,r)):x∈l:=by
 cases l with
 | nil=>cases h
 | cons y t=>
  unfold zaj at h
  cases hb:badW y with
  | some f=>simp[hb]at h
  | none=>
   simp[hb]at h;rw[h.1];exact List.mem_cons_self
theorem zoZ(t:Bs):(ptext t).length<=t.length:=by
 unfold ptext
 repeat' split
 all_goals simp
theorem zr3(x:Wd):(ptW x).length<=x.text.length:=by
 unfold ptW
 repeat' split
 all_goals first | exact zoZ _ | simp
end Go.Proofs.YtjjjagepnnbebaaGreatDoor
