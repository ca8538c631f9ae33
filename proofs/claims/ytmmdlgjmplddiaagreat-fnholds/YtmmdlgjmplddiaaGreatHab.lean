/-
  OUR OWN TEXT. Chk, Dr0, Dw2, one behind the other.
-/
import Derived.Test.YtmmdlgjmplddiaaGreatHaa
namespace Go.Proofs.YtmmdlgjmplddiaaGreat
def isE (s:ByteArray):Bool:=s.toList.isEmpty
def zaZ (v:V):Bool:=v.kind==0 && (v.num==0 && isE v.sym)
def zcm (t:Tm):Bool:=(isE t.var && gVal t.val) || (gSym t.var.data.toList && zaZ t.val)
def gTm (t:Tm):Bool:=
 if t.kind==0 then t.op==0 && (isE t.var && zaZ t.val)
 else if t.kind==1 then t.op==0 && (isE t.var && gVal t.val)
 else if t.kind==2 then t.op==0 && (gSym t.var.data.toList && zaZ t.val)
 else if t.kind==3 then decide (1≤t.op) && (decide (t.op≤6) && zcm t)
 else false
def notB:ByteArray:=⟨#[110,111,116]⟩
def gCls (s:ByteArray):Bool:=gSym s.data.toList && !(decide (s=notB))
def gPt (p:Pt):Bool:=gCls p.cls && (decide (p.terms.length≤6) && p.terms.all gTm)
def zaD {α:Type} (f:α→Bool):List α→Nat→Option Nat
 | [],_=>none
 | x :: r,k=>if f x then zaD f r (k+1) else some k
abbrev Sp:=Nat × Nat
def isAr (op:Int):Bool:=op==43 || (op==45 || (op==42 || (op==47 || op==37)))
def zaR (e:Ex):Bool:=e.op==0 && (e.a==0 && e.b==0)
def zcU (S:List Sp) (a b:Int):Option Sp:=
 match S[b.toNat]?,S[a.toNat]? with
 | some sb,some sa=>if decide (a=(sb.1:Int) - 1) && decide (1+max sa.2 sb.2≤20) then some (sa.1,1+max sa.2 sb.2) else none
 | _,_=>none
def opOk (S:List Sp) (e:Ex):Bool:=isAr e.op && (isE e.var && (zaZ e.val && (decide (e.b=(S.length:Int) - 1) && (decide (0≤e.b) && decide (0≤e.a)))))
def zaE (S:List Sp) (e:Ex):Option Sp:=
 if e.kind==0 then (if zaR e && (isE e.var && gVal e.val) then some (S.length,0) else none)
 else if e.kind==1 then (if zaR e && (gSym e.var.data.toList && zaZ e.val) then some (S.length,0) else none)
 else if e.kind==2 then (if opOk S e then zcU S e.a e.b else none)
 else none
def zas:List Sp→List Ex→List Sp
 | S,[]=>S
 | S,e :: r=>match zaE S e with
  | none=>S
  | some s=>zas (S ++ [s]) r
def zaP (S:List Sp):List Int→Nat→Option Nat
 | [],nx=>some nx
 | x :: r,nx=>if decide (0≤x) && (decide (x<(S.length:Int)) && decide ((S[x.toNat]?.getD (0,0)).1=nx)) then zaP S r (x.toNat+1) else none
def kOk (k:Int):Bool:=decide (-1000000≤k) && decide (k≤1000000)
def zaz (a:Ac):Bool:=
 if a.kind==1 then gCls a.cls && a.k==0
 else if a.kind==2 then (isE a.cls && kOk a.k) && a.args.isEmpty
 else if a.kind==3 then isE a.cls && kOk a.k
 else if a.kind==4 then isE a.cls && (a.k==0 && a.args.isEmpty)
 else false
def gAc (S:List Sp) (a:Ac) (nx:Nat):Option Nat:=if zaz a && decide (a.args.length≤6) then zaP S a.args nx else none
def zb6 (S:List Sp):List Ac→Nat→Nat→Option Nat
 | [],nx,k=>if nx=S.length then none else some k
 | a :: r,nx,k=>match gAc S a nx with
  | none=>some k
  | some nx'=>zb6 S r nx' (k+1)
def zci (r:Ru):Bool:=gSym r.name.data.toList && (decide (r.pats.length≤6) && (decide (r.acts.length≤8) && decide (r.exprs.length≤60)))
def shape (r:Ru):Option Nat:=
 if zci r then
  match zaD gPt r.pats 1 with
  | some i=>some i
  | none=>if (zas [] r.exprs).length<r.exprs.length then some ((zas [] r.exprs).length+1) else zb6 (zas [] r.exprs) r.acts 0 1
 else some 0
def pos1 (p:Pt):Bool:=!p.neg
def positives (ps:List Pt):Nat:=ps.countP pos1
def memB (s:ByteArray) (l:List ByteArray):Bool:=l.any fun x=>decide (x=s)
def asks (t:Tm):Bool:=t.kind==3 && !isE t.var
def zap:List Tm→List ByteArray→Option (List ByteArray)
 | [],here=>some here
 | t :: r,here=>if asks t && !memB t.var here then none else zap r (if t.kind==2 then here ++ [t.var] else here)
def zbd:List Pt→List ByteArray→Nat→Nat ⊕ List ByteArray
 | [],known,_=>.inr known
 | p :: r,known,k=>match zap p.terms known with
  | none=>.inl k
  | some here=>zbd r (if p.neg then known else here) (k+1)
def zbc (known:List ByteArray) (e:Ex):Bool:=!(e.kind==1) || memB e.var known
def upTo (a:Ac):Nat:=match a.args.getLast? with | none=>0 | some l=>l.toNat+1
def zbW (es:List Ex) (known:List ByteArray) (a:Ac):Bool:=a.args.isEmpty || (es.take (upTo a)).all (zbc known)
def scope (r:Ru):Option Nat:=
 match zbd r.pats [] 1 with
 | .inl i=>some i
 | .inr known=>zaD (zbW r.exprs known) r.acts (r.pats.length+1)
def zbi (most:Nat) (a:Ac):Bool:=!((a.kind==2 || a.kind==3) && !(decide (1≤a.k) && decide (a.k≤(most:Int))))
def refs (r:Ru):Option Nat:=zaD (zbi (positives r.pats)) r.acts (r.pats.length+1)
def chk1 (pre:List Ru) (r:Ru):Int × Int:=
 match shape r with
 | some i=>(1,i)
 | none=>if pre.any (fun o=>decide (o.name=r.name)) then (2,0)
  else if 1≤positives r.pats∧positives r.pats≤3 then
   match scope r with
   | some i=>(4,i)
   | none=>match refs r with
    | some i=>(5,i)
    | none=>(0,0)
  else (3,0)
def zcD:List Ru→List Ru→Nat→Int × Int × Int
 | _,[],_=>(0,0,0)
 | pre,r :: s,k=>if (chk1 pre r).1=0 then zcD (pre ++ [r]) s (k+1) else ((chk1 pre r).1,k,(chk1 pre r).2)
def chk (rs:List Ru):Int × Int × Int:=if rs.length≤16 then zcD [] rs 0 else (1,0,0)
def Spans (es:List Ex) (S:List Sp):Prop:=S.length≤es.length∧∀ (i:Nat) (s:Sp) (e:Ex),S[i]?=some s→es[i]?=some e→zaE (S.take i) e=some s
theorem Spans.nil (es:List Ex):Spans es []:=⟨Nat.zero_le _,fun i s e h=>by simp at h⟩
theorem Spans.snoc {es:List Ex}{S:List Sp}{e:Ex}{s:Sp} (h:Spans es S) (he:es[S.length]?=some e) (hs:zaE S e=some s):Spans es (S ++ [s]):=by
 refine ⟨by have:=(List.getElem?_eq_some_iff.1 he).1;simp;omega,fun i s' e' hi hi'=>?_⟩
 by_cases hlt:i<S.length
 ·rw [List.getElem?_append_left hlt] at hi
  rw [List.take_append_of_le_length (by omega)]
  exact h.2 i s' e' hi hi'
 ·have hil:i<(S ++ [s]).length:=(List.getElem?_eq_some_iff.1 hi).1
  simp at hil
  obtain rfl:i=S.length:=by omega
  simp at hi
  subst hi
  rw [he] at hi'
  injection hi' with hi'
  subst hi'
  rw [List.take_append_of_le_length (Nat.le_refl _),List.take_length]
  exact hs
theorem zcq {es:List Ex}:∀ {l:List Ex}{S:List Sp},Spans es S→es.drop S.length=l→Spans es (zas S l)∧S.length≤(zas S l).length
 | [],S,h,_=>⟨h,Nat.le_refl _⟩
 | e :: r,S,h,hd=>by
  have he:es[S.length]?=some e:=by
   have:=List.getElem?_drop (xs:=es) (i:=S.length) (j:=0)
   rw [hd] at this
   simpa using this.symm
  unfold zas
  split
  ·exact ⟨h,Nat.le_refl _⟩
  ·rename_i s hs
   have hd':es.drop (S ++ [s]).length=r:=by
    rw [List.length_append,← List.drop_drop,hd]
    rfl
   have:=zcq (h.snoc he hs) hd'
   exact ⟨this.1,by have:=this.2;simp at this;omega⟩
theorem Spans.op {es:List Ex}{S:List Sp} (h:Spans es S) {i:Nat}{s:Sp}{e:Ex} (hi:S[i]?=some s) (he:es[i]?=some e) (hk:e.kind=2) :
  ∃ (a b:Nat) (sa sb:Sp),e.a=(a:Int)∧e.b=(b:Int)∧b+1=i∧a<b+1∧S[a]?=some sa∧S[b]?=some sb∧s=(sa.1,1+max sa.2 sb.2):=by
 have:=h.2 i s e hi he
 unfold zaE at this
 simp only [hk] at this
 rw [if_neg (by decide),if_neg (by decide),if_pos (by decide)] at this
 split at this
 ·rename_i ho
  simp only [opOk,Bool.and_eq_true,decide_eq_true_eq] at ho
  obtain ⟨_,_,_,hb,hb0,ha0⟩:=ho
  have hi':i<S.length:=(List.getElem?_eq_some_iff.1 hi).1
  have hlen:(S.take i).length=i:=by simp;omega
  rw [hlen] at hb
  obtain ⟨b,hb'⟩:=Int.eq_ofNat_of_zero_le hb0
  obtain ⟨a,ha'⟩:=Int.eq_ofNat_of_zero_le ha0
  unfold zcU at this
  rw [hb',ha'] at this
  simp only [Int.toNat_natCast] at this
  split at this
  ·rename_i sb sa e1 e2
   rw [List.getElem?_take] at e1 e2
   split at e1
   ·split at e2
    ·split at this
     ·injection this with this
      exact ⟨a,b,sa,sb,ha',hb',by omega,by omega,e2,e1,this.symm⟩
     ·cases this
    ·cases e2
   ·cases e1
  ·cases this
 ·cases this
theorem Spans.leaf {es:List Ex}{S:List Sp} (h:Spans es S) {i:Nat}{s:Sp}{e:Ex} (hi:S[i]?=some s) (he:es[i]?=some e) (hk:e.kind≠2):s=(i,0):=by
 have:=h.2 i s e hi he
 have hi':i<S.length:=(List.getElem?_eq_some_iff.1 hi).1
 have hlen:(S.take i).length=i:=by simp;omega
 unfold zaE at this
 have hk2:(e.kind==2)=false:=by simpa using hk
 rw [hk2,hlen] at this
 split at this
 ·split at this
  ·injection this with this
   exact this.symm
  ·cases this
 ·split at this
  ·split at this
   ·injection this with this
    exact this.symm
   ·cases this
  ·simp at this
theorem Spans.depth_le {es:List Ex}{S:List Sp} (h:Spans es S) (i:Nat) (s:Sp) (hi:S[i]?=some s):s.2≤20:=by
 have hi':i<S.length:=(List.getElem?_eq_some_iff.1 hi).1
 have hes:=h.1
 obtain ⟨e,he⟩:∃ e,es[i]?=some e:=⟨es[i]'(by omega),by simp⟩
 by_cases hk:e.kind=2
 ·have:=h.2 i s e hi he
  unfold zaE at this
  simp only [hk] at this
  rw [if_neg (by decide),if_neg (by decide),if_pos (by decide)] at this
  split at this
  ·unfold zcU at this
   split at this
   ·split at this
    ·rename_i hc
     injection this with this
     simp only [Bool.and_eq_true,decide_eq_true_eq] at hc
     rw [← this]
     exact hc.2
    ·cases this
   ·cases this
  ·cases this
 ·rw [h.leaf hi he hk]
  exact Nat.zero_le _
theorem Spans.first_le {es:List Ex}{S:List Sp} (h:Spans es S):∀ (i:Nat) (s:Sp),S[i]?=some s→s.1≤i:=by
 intro i
 induction i using Nat.strongRecOn with
 | _ i ih=>
  intro s hi
  have hi':i<S.length:=(List.getElem?_eq_some_iff.1 hi).1
  have hes:=h.1
  obtain ⟨e,he⟩:∃ e,es[i]?=some e:=⟨es[i]'(by omega),by simp⟩
  by_cases hk:e.kind=2
  ·obtain ⟨a,b,sa,sb,_,_,h1,h2,h3,h4,rfl⟩:=h.op hi he hk
   have:=ih a (by omega) sa h3
   simp
   omega
  ·rw [h.leaf hi he hk]
   exact Nat.le_refl _
end Go.Proofs.YtmmdlgjmplddiaaGreat
namespace Go.Proofs.YtmmdlgjmplddiaaGreat
abbrev emB:ByteArray:=⟨#[]⟩
def Leaf (K:List ByteArray) (e:Ex):Prop:=(∃ v,gVal v=true∧e=⟨0,0,emB,v,0,0⟩)∨∃ s,s∈K∧e=⟨1,0,s,(0,0,emB),0,0⟩
def opE (op a b:Int):Ex:=⟨2,op,emB,(0,0,emB),a,b⟩
def Tree (K:List ByteArray):Nat→Nat→List Ex→Prop
 | 0,_,ys=>∃ e,ys=[e]∧Leaf K e
 | d+1,n,ys=>(∃ e,ys=[e]∧Leaf K e)∨∃ A B op,isAr op=true∧Tree K d n A∧Tree K d (n+A.length) B∧ys=A ++ (B ++ [opE op (((n+A.length:Nat):Int) - 1) (((n+A.length+B.length:Nat):Int) - 1)])
theorem Tree.leaf {K:List ByteArray}{d n:Nat}{e:Ex} (h:Leaf K e):Tree K d n [e]:=by
 cases d with
 | zero=>exact ⟨e,rfl,h⟩
 | succ d=>exact .inl ⟨e,rfl,h⟩
theorem Tree.pos {K:List ByteArray}{d n:Nat}{ys:List Ex} (h:Tree K d n ys):1≤ys.length:=by
 cases d with
 | zero=>
  obtain ⟨e,rfl,_⟩:=h
  exact Nat.le_refl 1
 | succ d=>
  rcases h with ⟨e,rfl,_⟩ | ⟨A,B,op,_,_,_,rfl⟩
  ·exact Nat.le_refl 1
  ·simp only [List.length_append,List.length_cons,List.length_nil]
   omega
theorem zht:(⟨#[]⟩:ByteArray).toList=[]:=by decide +kernel
theorem zcM:isE ⟨#[]⟩=true:=by rw [isE,zht];rfl
theorem znT:isE emB=true:=zcM
theorem zcz:zaZ ((0,0,⟨#[]⟩):V)=true:=by
 have:zaZ ((0,0,⟨#[]⟩):V)=isE ⟨#[]⟩:=rfl
 rw [this,zcM]
theorem zjH:zaZ ((0,0,emB):V)=true:=zcz
theorem zl8 (n:Int):gVal (0,n,⟨#[]⟩)=true:=by
 have:gVal (0,n,⟨#[]⟩)=((⟨#[]⟩:ByteArray).toList.isEmpty || false):=rfl
 rw [this,zht]
 rfl
theorem Tree.known {K:List ByteArray}:∀ {d n:Nat}{ys:List Ex},Tree K d n ys→∀ e∈ys,zbc K e=true:=by
 have leafK:∀ {e:Ex},Leaf K e→zbc K e=true:=by
  rintro e (⟨v,_,rfl⟩ | ⟨s,hs,rfl⟩)
  ·rfl
  ·have:memB s K=true:=List.any_eq_true.2 ⟨s,hs,by simp⟩
   simp [zbc,this]
 intro d
 induction d with
 | zero=>
  rintro n ys ⟨e,rfl,h⟩ x hx
  simp at hx
  exact hx ▸ leafK h
 | succ d ih=>
  rintro n ys (⟨e,rfl,h⟩ | ⟨A,B,op,_,hA,hB,rfl⟩) x hx
  ·simp at hx
   exact hx ▸ leafK h
  ·simp at hx
   rcases hx with hx | hx | hx
   ·exact ih hA x hx
   ·exact ih hB x hx
   ·rw [hx]
    rfl
theorem zdf {S:List Sp}{e:Ex}{s:Sp} (h:zaE S e=some s) (r:List Ex):zas S (e :: r)=zas (S ++ [s]) r:=by
 simp only [zas,h]
theorem Leaf.span {K:List ByteArray} (hK:∀ s∈K,gSym s.data.toList=true) {e:Ex} (h:Leaf K e) (S:List Sp):zaE S e=some (S.length,0):=by
 rcases h with ⟨v,hv,rfl⟩ | ⟨s,hs,rfl⟩
 ·simp [zaE,zaR,hv,znT]
 ·simp [zaE,zaR,hK s hs,zjH]
theorem zgZ {α:Type} (l:List α) (x:α) (i:Nat) (h:i=l.length):(l ++ [x])[i]?=some x:=by subst h;simp
theorem Tree.spans {K:List ByteArray} (hK:∀ s∈K,gSym s.data.toList=true):∀ {d:Nat},d≤20→∀ {n:Nat}{ys:List Ex},Tree K d n ys→∀ (S:List Sp),S.length=n →
  ∃ T m,T.length+1=ys.length∧m≤d∧∀ r,zas S (ys ++ r)=zas (S ++ T ++ [(n,m)]) r:=by
 intro d
 induction d with
 | zero=>
  rintro _ n ys ⟨e,rfl,h⟩ S hS
  refine ⟨[],0,rfl,Nat.le_refl _,fun r=>?_⟩
  rw [List.singleton_append,zdf (h.span hK S),hS,List.append_nil]
 | succ d ih=>
  rintro hd n ys (⟨e,rfl,h⟩ | ⟨A,B,op,hop,hA,hB,rfl⟩) S hS
  ·refine ⟨[],0,rfl,Nat.zero_le _,fun r=>?_⟩
   rw [List.singleton_append,zdf (h.span hK S),hS,List.append_nil]
  ·obtain ⟨TA,mA,hlA,hmA,hgA⟩:=ih (by omega) hA S hS
   obtain ⟨TB,mB,hlB,hmB,hgB⟩:=ih (by omega) hB (S ++ TA ++ [(n,mA)]) (by simp;omega)
   have hl1:(S ++ TA ++ [(n,mA)]).length=n+A.length:=by simp;omega
   have hl2:(S ++ TA ++ [(n,mA)] ++ TB ++ [(n+A.length,mB)]).length=n+A.length+B.length:=by simp;omega
   have hpA:=hA.pos
   have hpB:=hB.pos
   have hb:(S ++ TA ++ [(n,mA)] ++ TB ++ [(n+A.length,mB)])[((((n+A.length+B.length:Nat):Int) - 1)).toNat]?=some (n+A.length,mB):=zgZ _ _ _ (by simp;omega)
   have ha:(S ++ TA ++ [(n,mA)] ++ TB ++ [(n+A.length,mB)])[((((n+A.length:Nat):Int) - 1)).toNat]?=some (n,mA):=by
    rw [List.append_assoc,List.getElem?_append_left (by rw [hl1];omega)]
    exact zgZ _ _ _ (by simp;omega)
   have hspan:zaE (S ++ TA ++ [(n,mA)] ++ TB ++ [(n+A.length,mB)]) (opE op (((n+A.length:Nat):Int) - 1) (((n+A.length+B.length:Nat):Int) - 1))=some (n,1+max mA mB):=by
    have ho:opOk (S ++ TA ++ [(n,mA)] ++ TB ++ [(n+A.length,mB)]) (opE op (((n+A.length:Nat):Int) - 1) (((n+A.length+B.length:Nat):Int) - 1))=true:=by
     unfold opOk
     rw [hl2]
     show (isAr op && (isE ⟨#[]⟩ && (zaZ ((0,0,⟨#[]⟩):V) && _)))=true
     rw [hop,zcM,zcz]
     show (decide (((n+A.length+B.length:Nat):Int) - 1=((n+A.length+B.length:Nat):Int) - 1) && (decide (0≤((n+A.length+B.length:Nat):Int) - 1) && decide (0≤((n+A.length:Nat):Int) - 1)))=true
     simp only [Bool.and_eq_true,decide_eq_true_eq]
     exact ⟨trivial,by omega,by omega⟩
    unfold zaE
    rw [if_neg (show ¬ ((opE op (((n+A.length:Nat):Int) - 1) (((n+A.length+B.length:Nat):Int) - 1)).kind==0)=true from fun h=>by cases h),if_neg (show ¬ ((opE op (((n+A.length:Nat):Int) - 1) (((n+A.length+B.length:Nat):Int) - 1)).kind==1)=true from fun h=>by cases h),if_pos (show ((opE op (((n+A.length:Nat):Int) - 1) (((n+A.length+B.length:Nat):Int) - 1)).kind==2)=true from rfl),if_pos ho]
    show zcU _ (((n+A.length:Nat):Int) - 1) (((n+A.length+B.length:Nat):Int) - 1)=_
    unfold zcU
    simp only [hb,ha]
    rw [if_pos]
    simp only [Bool.and_eq_true,decide_eq_true_eq]
    exact ⟨by first | trivial | rfl | omega,by omega⟩
   refine ⟨TA ++ [(n,mA)] ++ TB ++ [(n+A.length,mB)],1+max mA mB,by simp;omega,by omega,fun r=>?_⟩
   have e1:A ++ (B ++ [opE op (((n+A.length:Nat):Int) - 1) (((n+A.length+B.length:Nat):Int) - 1)]) ++ r=A ++ (B ++ (opE op (((n+A.length:Nat):Int) - 1) (((n+A.length+B.length:Nat):Int) - 1) :: r)):=by simp
   rw [e1,hgA,hgB,zdf hspan]
   simp only [List.append_assoc]
def Trees (K:List ByteArray):Nat→List Ex→List Int→Prop
 | _,ys,[]=>ys=[]
 | n,ys,x :: r=>∃ A B,ys=A ++ B∧Tree K 2 n A∧x=((n+A.length:Nat):Int) - 1∧Trees K (n+A.length) B r
theorem Trees.snoc {K:List ByteArray}{B:List Ex}:∀ {us:List Int}{n:Nat}{ys:List Ex},Trees K n ys us→Tree K 2 (n+ys.length) B→Trees K n (ys ++ B) (us ++ [((n+ys.length+B.length:Nat):Int) - 1])
 | [],n,ys,h,hB=>by
  have h:ys=[]:=h
  subst h
  exact ⟨B,[],by simp,hB,by simp,rfl⟩
 | x :: r,n,ys,h,hB=>by
  obtain ⟨A,C,rfl,hA,hx,hC⟩:=h
  have:=Trees.snoc hC (B:=B) (by simpa [Nat.add_assoc] using hB)
  exact ⟨A,C ++ B,by simp,hA,hx,by simpa [Nat.add_assoc] using this⟩
theorem Trees.known {K:List ByteArray}:∀ {us:List Int}{n:Nat}{ys:List Ex},Trees K n ys us→∀ e∈ys,zbc K e=true
 | [],n,ys,h=>by
  have h:ys=[]:=h
  subst h
  simp
 | x :: r,n,ys,h=>by
  obtain ⟨A,C,rfl,hA,_,hC⟩:=h
  intro e he
  rcases List.mem_append.1 he with he | he
  ·exact hA.known e he
  ·exact Trees.known hC e he
theorem Trees.spans {K:List ByteArray} (hK:∀ s∈K,gSym s.data.toList=true):∀ {us:List Int}{n:Nat}{ys:List Ex},Trees K n ys us→∀ (S:List Sp),S.length=n →
  ∃ T,T.length=ys.length∧(∀ r,zas S (ys ++ r)=zas (S ++ T) r)∧∀ U,zaP (S ++ T ++ U) us n=some (n+ys.length)
 | [],n,ys,h,S,hS=>by
  have h:ys=[]:=h
  subst h
  exact ⟨[],rfl,by simp,fun U=>rfl⟩
 | x :: r,n,ys,h,S,hS=>by
  obtain ⟨A,C,rfl,hA,hx,hC⟩:=h
  obtain ⟨TA,m,hl,_,hg⟩:=hA.spans hK (by decide) S hS
  obtain ⟨T,hT,hgT,hU⟩:=Trees.spans hK hC (S ++ TA ++ [(n,m)]) (by simp;omega)
  refine ⟨TA ++ [(n,m)] ++ T,by simp;omega,fun q=>?_,fun U=>?_⟩
  ·rw [List.append_assoc,hg,hgT]
   simp only [List.append_assoc]
  ·have hp:=hA.pos
   have hxn:x.toNat=n+A.length - 1:=by omega
   have e1:S ++ (TA ++ [(n,m)] ++ T) ++ U=S ++ TA ++ [(n,m)] ++ (T ++ U):=by simp
   have e2:S ++ (TA ++ [(n,m)] ++ T) ++ U=S ++ TA ++ [(n,m)] ++ T ++ U:=by simp
   have hget:(S ++ (TA ++ [(n,m)] ++ T) ++ U)[x.toNat]?=some (n,m):=by
    rw [e1,List.getElem?_append_left (by simp;omega)]
    exact zgZ _ _ _ (by simp;omega)
   have hlen:x<((S ++ (TA ++ [(n,m)] ++ T) ++ U).length:Int):=by simp;omega
   have:=hU U
   rw [← e2] at this
   unfold zaP
   rw [hget,if_pos (by simp only [Option.getD_some,Bool.and_eq_true,decide_eq_true_eq];exact ⟨by omega,hlen,trivial⟩),show x.toNat+1=n+A.length by omega,this]
   simp
   omega
def zcN (K:List ByteArray) (pos:Nat):Nat→List Ex→List Ac→Prop
 | _,ys,[]=>ys=[]
 | n,ys,a :: r=>∃ A B,ys=A ++ B∧Trees K n A a.args∧(zaz a=true∧a.args.length≤6∧zbi pos a=true)∧zcN K pos (n+A.length) B r
theorem zcN.snoc {K:List ByteArray}{pos:Nat}{B:List Ex}{a:Ac} (ha:zaz a=true∧a.args.length≤6∧zbi pos a=true):∀ {us:List Ac}{n:Nat}{ys:List Ex},zcN K pos n ys us→Trees K (n+ys.length) B a.args→zcN K pos n (ys ++ B) (us ++ [a])
 | [],n,ys,h,hB=>by
  have h:ys=[]:=h
  subst h
  exact ⟨B,[],by simp,hB,ha,rfl⟩
 | x :: r,n,ys,h,hB=>by
  obtain ⟨A,C,rfl,hA,hx,hC⟩:=h
  have:=zcN.snoc ha hC (B:=B) (by simpa [Nat.add_assoc] using hB)
  exact ⟨A,C ++ B,by simp,hA,hx,this⟩
theorem zcN.known {K:List ByteArray}{pos:Nat}:∀ {us:List Ac}{n:Nat}{ys:List Ex},zcN K pos n ys us→∀ e∈ys,zbc K e=true
 | [],n,ys,h=>by
  have h:ys=[]:=h
  subst h
  simp
 | x :: r,n,ys,h=>by
  obtain ⟨A,C,rfl,hA,_,hC⟩:=h
  intro e he
  rcases List.mem_append.1 he with he | he
  ·exact hA.known e he
  ·exact zcN.known hC e he
theorem zcN.refs {K:List ByteArray}{pos:Nat}:∀ {us:List Ac}{n:Nat}{ys:List Ex},zcN K pos n ys us→∀ a∈us,zbi pos a=true
 | [],n,ys,h=>by simp
 | x :: r,n,ys,h=>by
  obtain ⟨A,C,rfl,hA,hx,hC⟩:=h
  intro a ha
  rcases List.mem_cons.1 ha with rfl | ha
  ·exact hx.2.2
  ·exact zcN.refs hC a ha
theorem zcN.spans {K:List ByteArray}{pos:Nat} (hK:∀ s∈K,gSym s.data.toList=true):∀ {us:List Ac}{n:Nat}{ys:List Ex},zcN K pos n ys us→∀ (S:List Sp),S.length=n →
  ∃ T,T.length=ys.length∧zas S ys=S ++ T∧∀ k,zb6 (S ++ T) us n k=none
 | [],n,ys,h,S,hS=>by
  have h:ys=[]:=h
  subst h
  exact ⟨[],rfl,by simp [zas],fun k=>by simp [zb6,hS]⟩
 | x :: r,n,ys,h,S,hS=>by
  obtain ⟨A,C,rfl,hA,hx,hC⟩:=h
  obtain ⟨TA,hl,hg,hU⟩:=hA.spans hK S hS
  obtain ⟨T,hT,hgT,hk⟩:=zcN.spans hK hC (S ++ TA) (by simp;omega)
  refine ⟨TA ++ T,by simp;omega,?_,fun k=>?_⟩
  ·rw [hg,hgT,List.append_assoc]
  ·rw [← List.append_assoc]
   have:gAc (S ++ TA ++ T) x n=some (n+A.length):=by
    unfold gAc
    rw [if_pos (by simp only [Bool.and_eq_true,decide_eq_true_eq];exact ⟨hx.1,hx.2.1⟩)]
    exact hU T
   simp only [zb6,this]
   exact hk (k+1)
theorem zi6 {α:Type}{f:α→Bool}:∀ {l:List α}{k:Nat},(∀ x∈l,f x=true)→zaD f l k=none
 | [],k,_=>rfl
 | x :: r,k,h=>by
  simp only [zaD,h x (by simp),if_true]
  exact zi6 (fun y hy=>h y (by simp [hy]))
theorem zeA {t:Tm}:∀ {ts:List Tm}{h0 here:List ByteArray},zap ts h0=some here→(asks t=true→memB t.var here=true)→zap (ts ++ [t]) h0=some (if t.kind==2 then here ++ [t.var] else here)
 | [],h0,here,h,ht=>by
  injection h with h
  subst h
  have hc:(asks t && !memB t.var h0)=false:=by
   cases ha:asks t
   ·rfl
   ·simp [ht ha]
  simp only [List.nil_append,zap,hc]
  rfl
 | x :: r,h0,here,h,ht=>by
  simp only [List.cons_append,zap] at h ⊢
  split at h
  ·cases h
  ·rename_i hc
   rw [if_neg hc]
   exact zeA h ht
theorem zdC {p:Pt}{here:List ByteArray}:∀ {ps:List Pt}{k0 kn:List ByteArray}{k:Nat},zbd ps k0 k=.inr kn→zap p.terms kn=some here→zbd (ps ++ [p]) k0 k=.inr (if p.neg then kn else here)
 | [],k0,kn,k,h,ht=>by
  injection h with h
  subst h
  simp only [List.nil_append,zbd,ht]
 | x :: r,k0,kn,k,h,ht=>by
  simp only [List.cons_append,zbd] at h ⊢
  split at h
  ·cases h
  ·rename_i hh he
   first
   | exact zdC h ht
   | (rw [he];exact zdC h ht)
structure Drawn (K:List ByteArray) (pos:Nat) (r:Ru):Prop where
 name:gSym r.name.data.toList=true
 pats:r.pats.length≤6
 good:∀ p∈r.pats,gPt p=true
 known:zbd r.pats [] 1=.inr K
 words:∀ s∈K,gSym s.data.toList=true
 count:positives r.pats=pos
 npos:1≤pos∧pos≤3
 acts:r.acts.length≤8
 exprs:r.exprs.length≤60
 trees:zcN K pos 0 r.exprs r.acts
theorem Drawn.chk1 {K:List ByteArray}{pos:Nat}{r:Ru} (h:Drawn K pos r) {pre:List Ru} (hp:∀ o∈pre,o.name≠r.name):chk1 pre r=(0,0):=by
 obtain ⟨T,hT,hg,hk⟩:=h.trees.spans h.words [] rfl
 have hs:shape r=none:=by
  unfold shape
  rw [if_pos (by simp only [zci,Bool.and_eq_true,decide_eq_true_eq];exact ⟨h.name,h.pats,h.acts,h.exprs⟩),zi6 h.good]
  rw [List.nil_append] at hg hk
  show (if _ then _ else _)=none
  rw [hg,if_neg (by omega)]
  exact hk 1
 have ha:pre.any (fun o=>decide (o.name=r.name))=false:=by
  rw [List.any_eq_false]
  intro o ho
  simp [hp o ho]
 have hsc:scope r=none:=by
  unfold scope
  rw [h.known]
  refine zi6 fun a _=>?_
  simp only [zbW,Bool.or_eq_true]
  exact .inr (List.all_eq_true.2 fun e he=>h.trees.known e (List.mem_of_mem_take he))
 have hrf:refs r=none:=by
  unfold refs
  rw [h.count]
  exact zi6 h.trees.refs
 unfold Go.Proofs.YtmmdlgjmplddiaaGreat.chk1
 rw [hs]
 show (if _ then _ else if _ then _ else _)=_
 rw [ha,if_neg (by simp),if_pos (by rw [h.count];exact h.npos),hsc,hrf]
def nmK (k:Nat):ByteArray:=⟨#[114,(UInt8.ofNat (48+k))]⟩
theorem zlY (k:Nat) (h:k<10):gSym (nmK k).data.toList=true:=by
 have:∀ k:Fin 10,gSym (nmK k.val).data.toList=true:=by decide
 exact this ⟨k,h⟩
theorem znM (i j:Nat) (hi:i<10) (hj:j<10) (h:i≠j):nmK i≠nmK j:=by
 have:∀ i j:Fin 10,i≠j→nmK i.val≠nmK j.val:=by decide
 exact this ⟨i,hi⟩ ⟨j,hj⟩ (fun e=>h (by injection e))
def DRu (k:Nat) (r:Ru):Prop:=r.name=nmK k∧∃ K pos,Drawn K pos r
theorem zfo:∀ {s pre:List Ru}{k:Nat},(∀ (i:Nat) (r:Ru),(pre ++ s)[i]?=some r→DRu i r)→(pre ++ s).length≤10→zcD pre s k=(0,0,0)
 | [],pre,k,_,_=>rfl
 | r :: s,pre,k,h,hl=>by
  obtain ⟨hn,K,pos,hr⟩:=h pre.length r (by simp)
  simp at hl
  have:chk1 pre r=(0,0):=hr.chk1 fun o ho=>by
   obtain ⟨i,hi,rfl⟩:=List.mem_iff_getElem.1 ho
   rw [(h i pre[i] (by rw [List.getElem?_append_left hi];simp)).1,hn]
   exact znM _ _ (by omega) (by omega) (by omega)
  unfold zcD
  rw [this,if_pos rfl]
  exact zfo (by simpa using h) (by simp;omega)
theorem zks {rs:List Ru} (h:∀ (i:Nat) (r:Ru),rs[i]?=some r→DRu i r) (hl:rs.length≤10):chk rs=(0,0,0):=by
 unfold chk
 rw [if_pos (by omega)]
 exact zfo (pre:=[]) (by simpa using h) (by simpa using hl)
end Go.Proofs.YtmmdlgjmplddiaaGreat
namespace Go.Proofs.YtmmdlgjmplddiaaGreat
open Go.RowKit
attribute [local go_sem ↓] Go.wp_at_zero Go.wp_at_succ
theorem zaC {g b:Nat}{w w':World}{o:Obj} (h:Rs g w w') (hb:w.heap[b]?=some o) (hne:b≠g):w'.heap[b]?=some o:=
 (h.1.block b (zab hb) (fun e=>hne (by injection e with e;exact e.symm))).trans hb
theorem zgI {g b o:Nat}{w w':World}{v:Value} (h:Rs g w w') (hb:w.cell? ⟨b,o,none⟩=some v) (hne:b≠g):w'.cell? ⟨b,o,none⟩=some v:=by
 rw [← hb]
 exact World.cell?_of_block (w:=w) (h.1.block b (World.block_lt_of_cell? w ⟨b,o,none⟩ hb) (fun e=>hne (by injection e with e;exact e.symm)))
def GCl (s:ByteArray):Prop:=s.size≤20∧gCls s=true
def GNm (s:ByteArray):Prop:=s.size≤20∧gSym s.data.toList=true
set_option maxHeartbeats 800000 in
theorem zdg (c:Nat) (w:World):Calls Tryz.prog 120 #[.int .i64 (c:Int)] w fun e w'=>∃ s:ByteArray,GCl s∧e=.returned (.string s)∧Below w.heap.size w w':=by
 have h3:c % 3=0∨c % 3=1∨c % 3=2:=by omega
 rcases h3 with h | h | h
 all_goals
  go_enter Tryz.func120,Tryz.ntmps120
  go_wp2
  go_ret
  exact ⟨_,⟨by decide,by decide⟩,rfl,(Below.refl _ _).alloc (Nat.le_refl _) _⟩
set_option maxHeartbeats 800000 in
theorem zjp (c:Nat) (w:World):Calls Tryz.prog 147 #[.int .i64 (c:Int)] w fun e w'=>∃ s:ByteArray,GNm s∧e=.returned (.string s)∧Below w.heap.size w w':=by
 have h3:c % 3=0∨c % 3=1∨c % 3=2:=by omega
 rcases h3 with h | h | h
 all_goals
  go_enter Tryz.func147,Tryz.ntmps147
  go_wp2
  go_ret
  exact ⟨_,⟨by decide,by decide⟩,rfl,(Below.refl _ _).alloc (Nat.le_refl _) _⟩
def vV (v:V):Value:=.agg #[.int .i64 v.kind,.int .i64 v.num,.string v.sym]
theorem zku (s:ByteArray) (w:World):Calls Tryz.prog 149 #[.string s] w fun e w'=>e=.returned (vV (1,0,s))∧Below w.heap.size w w':=by
 go_enter Tryz.func149,Tryz.ntmps149
 go_wp2
 exact bodyPost_ret (v:=vV (1,0,s)) (by simp [results,Tryz.results149,go_sem,vV,V.kind,V.num,V.sym]) rfl ⟨rfl,(Below.refl _ _).alloc (Nat.le_refl _) _⟩
theorem zgm (n:Int) (w:World):Calls Tryz.prog 150 #[.int .i64 n] w fun e w'=>e=.returned (vV (0,n,⟨#[]⟩))∧Below w.heap.size w w':=by
 go_enter Tryz.func150,Tryz.ntmps150
 go_wp2
 exact bodyPost_ret (v:=vV (0,n,⟨#[]⟩)) (by simp [results,Tryz.results150,go_sem,vV,V.kind,V.num,V.sym]) rfl ⟨rfl,(Below.refl _ _).alloc (Nat.le_refl _) _⟩
def VSm (v:V):Prop:=v.sym.size≤20∧(-9223372036854775808≤v.kind∧v.kind≤9223372036854775807) ∧ -9223372036854775808≤v.num∧v.num≤9223372036854775807∧gVal v=true
theorem znr (s:ByteArray) (h:s.size≤20) (hg:gVal (1,0,s)=true):VSm (1,0,s):=⟨h,⟨show (_:Int)≤1 by decide,show (1:Int)≤_ by decide⟩,show (_:Int)≤0 by decide,show (0:Int)≤_ by decide,hg⟩
theorem zim (n:Int) (h1:-9223372036854775808≤n) (h2:n≤9223372036854775807):VSm (0,n,⟨#[]⟩):=⟨Nat.zero_le 20,⟨show (_:Int)≤0 by decide,show (0:Int)≤_ by decide⟩,h1,h2,zl8 n⟩
theorem zdP:VSm (0,0,⟨#[]⟩):=zim 0 (by decide) (by decide)
theorem box3 {w:World}{b:Nat}{t:TypeId}{v:V} (h:w.heap[b]?=some (.cells (V.cells v).toArray t (0,0))):w.cell? ⟨b,0,none⟩=some (.int .i64 v.kind)∧w.cell? ⟨b,1,none⟩=some (.int .i64 v.num)∧w.cell? ⟨b,2,none⟩=some (.string v.sym):=by
 refine ⟨?_,?_,?_⟩ <;> simp [World.cell?,h,V.cells]
theorem zdY:(Tryz.prog.info? 109).map (·.size)=some 3:=by kernel_rfl
theorem V.cells_one (v:V):∀ u∈V.cells v,u.oneCell'=true:=by
 intro u hu
 simp [V.cells] at hu
 rcases hu with rfl | rfl | rfl <;> rfl
theorem Rs.turned {g b:Nat}{u v w:World} (h:Rs g u v) (ht:Turned v w b) (hb:u.heap.size≤b) (hg:g<u.heap.size):Rs g u w:=by
 refine ⟨⟨h.1.rest.trans (ht.below (Nat.zero_le _)),fun k hk hne=>(ht.block k (by omega)).trans (h.1.block k hk hne)⟩,?_⟩
 exact h.2.old (ht.below (by omega))
theorem abs3 {w:World}{b:Nat}{t:TypeId}{v:V} (h:Hid (w.heap[b]?=some (.cells (V.cells v).toArray t (0,0)))) (hv:VSm v):∃ v:V,VSm v∧w.cell? ⟨b,0,none⟩=some (.int .i64 v.kind)∧w.cell? ⟨b,1,none⟩=some (.int .i64 v.num)∧w.cell? ⟨b,2,none⟩=some (.string v.sym):=⟨v,hv,box3 h.out⟩
set_option maxRecDepth 100000 in
set_option maxHeartbeats 1600000 in
theorem zcg (g:Nat) (w:World) (h:Rdr w g):Calls Tryz.prog 123 #[.pointer (some ⟨g,0,none⟩)] w fun e w'=>∃ v:V,VSm v∧e=.returned (vV v)∧Rs g w w':=by
 have H:=hidR h
 have hlt:=h.lt
 clear h
 have HB:=hidR (fun o=>(H.out.bel ((Below.refl _ _).alloc (Nat.le_refl _) o)))
 go_enter Tryz.func123,Tryz.ntmps123
 go_wp2_with fail
 refine (zbf g _ (HB.out _)).mono ?_
 rintro e w1 ⟨c,hc,rfl,hr⟩
 have hbx:=hidR (zaC hr (heap_alloc_new _ _) (by omega))
 have hR:=hidR (((Rs.of H.out ((Below.refl _ _).alloc (Nat.le_refl _) _)).trans hr))
 have hs1:w.heap.size<w1.heap.size:=zab hbx.out
 clear hr HB
 have HA:=hidR (fun o=>(Below.refl _ _).alloc (Nat.le_refl _) o:∀ o,Below w1.heap.size w1 (w1.alloc o))
 by_cases h3:c % 3=0
 ·have hk:c / 3 % 3=0∨c / 3 % 3=1∨c / 3 % 3=2:=by omega
  rcases hk with hk | hk | hk
  all_goals
   go_wp2_with fail
   refine (zku _ _).mono ?_
   rintro e w2 ⟨rfl,hb2⟩
   have hB2:=hidR ((HA.out _).trans (hb2.mono (HA.out _).size))
   have hs2:=hB2.out.size
   clear hb2
   go_wp2_with (first | (refine zak (by rfl) 109 (.tmp 2) (.tmp 16) (by rfl) w.heap.size (V.cells (1,0,_)) (by rfl) (by rfl) _ 109 ((hB2.out.block _ hs1).trans hbx.out) (by rfl) zdY (V.cells_one _) ?_;intro w3 hk3 ht3;obtain ⟨v,hv,f0,f1,f2⟩:=abs3 hk3 (znr _ (by first | decide | exact Nat.zero_le 20) (by decide));clear hk3) | fail)
   exact bodyPost_ret (v:=vV v) (by simp [results,Tryz.results123,go_sem,f0,f1,f2,vV]) rfl ⟨v,hv,rfl,(hR.out.bel hB2.out).turned ht3.out (Nat.le_refl _) hlt⟩
 have h3':¬ (c:Int) % 3=0:=by omega
 by_cases h250:250≤c
 ·have h250':(250:Int)≤(c:Int):=by omega
  have hk:c % 4=1∨c % 4=2∨c % 4=3:=by omega
  rcases hk with hk | hk | hk
  all_goals
   go_wp2_with fail
   refine (zgm _ _).mono ?_
   rintro e w2 ⟨rfl,hb2⟩
   have hB2:=hidR ((HA.out _).trans (hb2.mono (HA.out _).size))
   have hs2:=hB2.out.size
   clear hb2
   go_wp2_with (first | (refine zak (by rfl) 109 (.tmp 2) (.tmp 25) (by rfl) w.heap.size (V.cells (0,_,_)) (by rfl) (by rfl) _ 109 ((hB2.out.block _ hs1).trans hbx.out) (by rfl) zdY (V.cells_one _) ?_;intro w3 hk3 ht3;obtain ⟨v,hv,f0,f1,f2⟩:=abs3 hk3 (zim _ (by first | decide | omega) (by first | decide | omega));clear hk3) | fail)
   exact bodyPost_ret (v:=vV v) (by simp [results,Tryz.results123,go_sem,f0,f1,f2,vV]) rfl ⟨v,hv,rfl,(hR.out.bel hB2.out).turned ht3.out (Nat.le_refl _) hlt⟩
 ·have h250':¬ (250:Int)≤(c:Int):=by omega
  go_wp2_with fail
  refine (zgm _ _).mono ?_
  rintro e w2 ⟨rfl,hb2⟩
  ·have hB2:=hidR hb2
   have hs2:=hB2.out.size
   clear hb2
   go_wp2_with (first | (refine zak (by rfl) 109 (.tmp 2) (.tmp 30) (by rfl) w.heap.size (V.cells (0,_,_)) (by rfl) (by rfl) _ 109 ((hB2.out.block _ hs1).trans hbx.out) (by rfl) zdY (V.cells_one _) ?_;intro w3 hk3 ht3;obtain ⟨v,hv,f0,f1,f2⟩:=abs3 hk3 (zim _ (by first | decide | omega) (by first | decide | omega));clear hk3) | fail)
   exact bodyPost_ret (v:=vV v) (by simp [results,Tryz.results123,go_sem,f0,f1,f2,vV]) rfl ⟨v,hv,rfl,(hR.out.bel hB2.out).turned ht3.out (Nat.le_refl _) hlt⟩
end Go.Proofs.YtmmdlgjmplddiaaGreat
