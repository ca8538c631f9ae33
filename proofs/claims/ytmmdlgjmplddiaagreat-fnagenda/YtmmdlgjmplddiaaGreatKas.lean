/-
  OUR OWN TEXT. Og, Dr0, Mt, Ms1, Bl0, one behind the other.
-/
import Derived.Test.YtmmdlgjmplddiaaGreatKaj
import Derived.Laws.BytesArg
import Derived.Laws.Strings
namespace Go.Proofs.YtmmdlgjmplddiaaGreat
open Go.RowKit
theorem zav (w:World) (L:List Value) (t:TypeId) (b:Nat) (hb:b=w.heap.size) (ad:Addr) (e:some (⟨b,0,none⟩:Addr)=some ad) (j:Nat) (u:Value) (h:L[j]?=some u):(w.alloc (.cells L.toArray t)).cell? (ad.add j)=some u:=by
 subst hb
 cases e
 rw [Addr.add_mid,Nat.zero_add]
 have hb:=heap_alloc_new w (.cells L.toArray t)
 simp only [World.cell?,hb]
 simpa using h
theorem zai {w:World}{base:Nat}{e:TypeId}{m:Nat}{v:Value}{n:Nat}{xs:List Value} (h:w.ownsRow base e m v n xs) {k:Nat} (hk:v.ownBlock=some k):∃ c,w.heap[k]?=some (.cells c e (0,0)):=by
 rcases h.2 with ⟨rfl,_⟩ | ⟨g,cap,cur,rfl,_,h3,_⟩
 ·simp [Value.ownBlock] at hk
 ·simp [Value.ownBlock] at hk
  subst hk
  exact ⟨cur,h3⟩
theorem zaA {w:World}{k:Nat}{c c':Array Value}{t t':TypeId}{f f':Nat × Nat} (h:w.heap[k]?=some (.cells c t f)) (h':w.heap[k]?=some (.cells c' t' f')) (hne:t≠t'):False:=by
 rw [h] at h'
 simp at h'
 exact hne h'.2.1
theorem zaj {P:World→Prop}{w1:World}{o:Obj} (h:∀ wt,Below w1.heap.size w1 wt→wt.heap[w1.heap.size]?=some o→P wt):P (w1.alloc o):=h _ ((Below.refl _ _).alloc (Nat.le_refl _) _) (heap_alloc_new _ _)
theorem zag {w w':World}{base:Nat}{e:TypeId}{m:Nat}{v:Value}{n:Nat}{xs:List Value} (h:w.ownsRow base e m v n xs) (hb:Below w.heap.size w w'):w'.ownsRow base e m v n xs:=
 zae h fun k hk=>hb.block k (h.lt k hk).2
theorem zbh {w w':World}{base:Nat}{e t:TypeId}{m:Nat}{v:Value}{n:Nat}{xs:List Value}{row:Option Nat} (h:w.ownsRow base e m v n xs) (hg:w.grownBy w' row) (ht:∀ k,row=some k→∃ c,w.heap[k]?=some (.cells c t (0,0))) (hne:t≠e):w'.ownsRow base e m v n xs:=
 zae h fun k hk=>hg.block k (h.lt k hk).2 (fun e=>by
  obtain ⟨c,hc⟩:=ht k e.symm
  obtain ⟨c',hc'⟩:=zai h hk
  exact zaA hc hc' hne)
theorem zbB {w:World}{base b o:Nat}{e t:TypeId}{m:Nat}{v:Value}{n:Nat}{xs:List Value}{x:Value}{c:Array Value}{fr:Nat × Nat} (h:w.ownsRow base e m v n xs) (hb:w.heap[b]?=some (.cells c t fr)) (hne:t≠e):(w.setCell ⟨b,o,none⟩ x).ownsRow base e m v n xs:=
 zae h fun k hk=>Below.heap_setCell _ _ _ _ (fun e=>by
  obtain ⟨c',hc'⟩:=zai h hk
  have e':k=b:=e
  subst e'
  exact zaA hb hc' hne)
theorem zaI {w w':World}{b:Nat}{t t':TypeId}{c:Array Value}{fr:Nat × Nat}{row:Option Nat} (h:w.heap[b]?=some (.cells c t fr)) (hg:w.grownBy w' row) (ht:∀ k,row=some k→∃ c,w.heap[k]?=some (.cells c t' (0,0))) (hne:t'≠t):w'.heap[b]?=some (.cells c t fr):=
 (hg.block b (zab h) (fun e=>by
  obtain ⟨c',hc⟩:=ht b e.symm
  exact zaA hc h hne)).trans h
theorem za5 {α:Type}{cells:α→List Value}{m:Nat} (hc:∀ x,(cells x).length=m):∀ (xs:List α) (i:Nat) (x:α) (j:Nat) (u:Value),xs[i]?=some x→(cells x)[j]?=some u→(xs.flatMap cells)[i * m+j]?=some u
 | [],i,x,j,u,h,_=>by simp at h
 | y :: r,0,x,j,u,h,hj=>by
  simp at h
  subst h
  have hl:j<(cells y).length:=(List.getElem?_eq_some_iff.1 hj).1
  rw [List.flatMap_cons,Nat.zero_mul,Nat.zero_add,List.getElem?_append_left hl]
  exact hj
 | y :: r,i+1,x,j,u,h,hj=>by
  rw [List.getElem?_cons_succ] at h
  have:=za5 hc r i x j u h hj
  have e:(i+1) * m=i * m+m:=Nat.succ_mul i m
  rw [List.flatMap_cons,List.getElem?_append_right (by rw [hc];omega),show (i+1) * m+j - (cells y).length=i * m+j by rw [hc];omega]
  exact this
end Go.Proofs.YtmmdlgjmplddiaaGreat
namespace Go.Proofs.YtmmdlgjmplddiaaGreat
abbrev emB:ByteArray:=⟨#[]⟩
def Leaf (K:List ByteArray) (e:Ex):Prop:=(∃ v,gVal v=true∧e=⟨0,0,emB,v,0,0⟩)∨∃ s,s∈K∧e=⟨1,0,s,(0,0,emB),0,0⟩
def opE (op a b:Int):Ex:=⟨2,op,emB,(0,0,emB),a,b⟩
def Tree (K:List ByteArray):Nat→Nat→List Ex→Prop
 | 0,_,ys=>∃ e,ys=[e]∧Leaf K e
 | d+1,n,ys=>(∃ e,ys=[e]∧Leaf K e)∨∃ A B op,isAr op=true∧Tree K d n A∧Tree K d (n+A.length) B∧ys=A ++ (B ++ [opE op (((n+A.length:Nat):Int) - 1) (((n+A.length+B.length:Nat):Int) - 1)])
theorem Tree.leaf {K:List ByteArray}{d n:Nat}{e:Ex} (h:Leaf K e):Tree K d n [e]:=by
 cases d with
 | zero=>exact ⟨e,rfl,h⟩
 | succ d=>exact .inl ⟨e,rfl,h⟩
theorem Tree.pos {K:List ByteArray}{d n:Nat}{ys:List Ex} (h:Tree K d n ys):1≤ys.length:=by
 cases d with
 | zero=>
  obtain ⟨e,rfl,_⟩:=h
  exact Nat.le_refl 1
 | succ d=>
  rcases h with ⟨e,rfl,_⟩ | ⟨A,B,op,_,_,_,rfl⟩
  ·exact Nat.le_refl 1
  ·simp only [List.length_append,List.length_cons,List.length_nil]
   omega
theorem zic:(⟨#[]⟩:ByteArray).toList=[]:=by decide +kernel
theorem zcR:isE ⟨#[]⟩=true:=by rw [isE,zic];rfl
theorem zo2:isE emB=true:=zcR
theorem zcC:za1 ((0,0,⟨#[]⟩):V)=true:=by
 have:za1 ((0,0,⟨#[]⟩):V)=isE ⟨#[]⟩:=rfl
 rw [this,zcR]
theorem zkF:za1 ((0,0,emB):V)=true:=zcC
theorem zmJ (n:Int):gVal (0,n,⟨#[]⟩)=true:=by
 have:gVal (0,n,⟨#[]⟩)=((⟨#[]⟩:ByteArray).toList.isEmpty || false):=rfl
 rw [this,zic]
 rfl
theorem Tree.known {K:List ByteArray}:∀ {d n:Nat}{ys:List Ex},Tree K d n ys→∀ e∈ys,za8 K e=true:=by
 have leafK:∀ {e:Ex},Leaf K e→za8 K e=true:=by
  rintro e (⟨v,_,rfl⟩ | ⟨s,hs,rfl⟩)
  ·rfl
  ·have:memB s K=true:=List.any_eq_true.2 ⟨s,hs,by simp⟩
   simp [za8,this]
 intro d
 induction d with
 | zero=>
  rintro n ys ⟨e,rfl,h⟩ x hx
  simp at hx
  exact hx ▸ leafK h
 | succ d ih=>
  rintro n ys (⟨e,rfl,h⟩ | ⟨A,B,op,_,hA,hB,rfl⟩) x hx
  ·simp at hx
   exact hx ▸ leafK h
  ·simp at hx
   rcases hx with hx | hx | hx
   ·exact ih hA x hx
   ·exact ih hB x hx
   ·rw [hx]
    rfl
theorem zdp {S:List Sp}{e:Ex}{s:Sp} (h:zaG S e=some s) (r:List Ex):zaq S (e :: r)=zaq (S ++ [s]) r:=by
 simp only [zaq,h]
theorem Leaf.span {K:List ByteArray} (hK:∀ s∈K,gSym s.data.toList=true) {e:Ex} (h:Leaf K e) (S:List Sp):zaG S e=some (S.length,0):=by
 rcases h with ⟨v,hv,rfl⟩ | ⟨s,hs,rfl⟩
 ·simp [zaG,zaP,hv,zo2]
 ·simp [zaG,zaP,hK s hs,zkF]
theorem zg2 {α:Type} (l:List α) (x:α) (i:Nat) (h:i=l.length):(l ++ [x])[i]?=some x:=by subst h;simp
theorem Tree.spans {K:List ByteArray} (hK:∀ s∈K,gSym s.data.toList=true):∀ {d:Nat},d≤20→∀ {n:Nat}{ys:List Ex},Tree K d n ys→∀ (S:List Sp),S.length=n →
  ∃ T m,T.length+1=ys.length∧m≤d∧∀ r,zaq S (ys ++ r)=zaq (S ++ T ++ [(n,m)]) r:=by
 intro d
 induction d with
 | zero=>
  rintro _ n ys ⟨e,rfl,h⟩ S hS
  refine ⟨[],0,rfl,Nat.le_refl _,fun r=>?_⟩
  rw [List.singleton_append,zdp (h.span hK S),hS,List.append_nil]
 | succ d ih=>
  rintro hd n ys (⟨e,rfl,h⟩ | ⟨A,B,op,hop,hA,hB,rfl⟩) S hS
  ·refine ⟨[],0,rfl,Nat.zero_le _,fun r=>?_⟩
   rw [List.singleton_append,zdp (h.span hK S),hS,List.append_nil]
  ·obtain ⟨TA,mA,hlA,hmA,hgA⟩:=ih (by omega) hA S hS
   obtain ⟨TB,mB,hlB,hmB,hgB⟩:=ih (by omega) hB (S ++ TA ++ [(n,mA)]) (by simp;omega)
   have hl1:(S ++ TA ++ [(n,mA)]).length=n+A.length:=by simp;omega
   have hl2:(S ++ TA ++ [(n,mA)] ++ TB ++ [(n+A.length,mB)]).length=n+A.length+B.length:=by simp;omega
   have hpA:=hA.pos
   have hpB:=hB.pos
   have hb:(S ++ TA ++ [(n,mA)] ++ TB ++ [(n+A.length,mB)])[((((n+A.length+B.length:Nat):Int) - 1)).toNat]?=some (n+A.length,mB):=zg2 _ _ _ (by simp;omega)
   have ha:(S ++ TA ++ [(n,mA)] ++ TB ++ [(n+A.length,mB)])[((((n+A.length:Nat):Int) - 1)).toNat]?=some (n,mA):=by
    rw [List.append_assoc,List.getElem?_append_left (by rw [hl1];omega)]
    exact zg2 _ _ _ (by simp;omega)
   have hspan:zaG (S ++ TA ++ [(n,mA)] ++ TB ++ [(n+A.length,mB)]) (opE op (((n+A.length:Nat):Int) - 1) (((n+A.length+B.length:Nat):Int) - 1))=some (n,1+max mA mB):=by
    have ho:opOk (S ++ TA ++ [(n,mA)] ++ TB ++ [(n+A.length,mB)]) (opE op (((n+A.length:Nat):Int) - 1) (((n+A.length+B.length:Nat):Int) - 1))=true:=by
     unfold opOk
     rw [hl2]
     show (isAr op && (isE ⟨#[]⟩ && (za1 ((0,0,⟨#[]⟩):V) && _)))=true
     rw [hop,zcR,zcC]
     show (decide (((n+A.length+B.length:Nat):Int) - 1=((n+A.length+B.length:Nat):Int) - 1) && (decide (0≤((n+A.length+B.length:Nat):Int) - 1) && decide (0≤((n+A.length:Nat):Int) - 1)))=true
     simp only [Bool.and_eq_true,decide_eq_true_eq]
     exact ⟨trivial,by omega,by omega⟩
    unfold zaG
    rw [if_neg (show ¬ ((opE op (((n+A.length:Nat):Int) - 1) (((n+A.length+B.length:Nat):Int) - 1)).kind==0)=true from fun h=>by cases h),if_neg (show ¬ ((opE op (((n+A.length:Nat):Int) - 1) (((n+A.length+B.length:Nat):Int) - 1)).kind==1)=true from fun h=>by cases h),if_pos (show ((opE op (((n+A.length:Nat):Int) - 1) (((n+A.length+B.length:Nat):Int) - 1)).kind==2)=true from rfl),if_pos ho]
    show zdv _ (((n+A.length:Nat):Int) - 1) (((n+A.length+B.length:Nat):Int) - 1)=_
    unfold zdv
    simp only [hb,ha]
    rw [if_pos]
    simp only [Bool.and_eq_true,decide_eq_true_eq]
    exact ⟨by first | trivial | rfl | omega,by omega⟩
   refine ⟨TA ++ [(n,mA)] ++ TB ++ [(n+A.length,mB)],1+max mA mB,by simp;omega,by omega,fun r=>?_⟩
   have e1:A ++ (B ++ [opE op (((n+A.length:Nat):Int) - 1) (((n+A.length+B.length:Nat):Int) - 1)]) ++ r=A ++ (B ++ (opE op (((n+A.length:Nat):Int) - 1) (((n+A.length+B.length:Nat):Int) - 1) :: r)):=by simp
   rw [e1,hgA,hgB,zdp hspan]
   simp only [List.append_assoc]
def Trees (K:List ByteArray):Nat→List Ex→List Int→Prop
 | _,ys,[]=>ys=[]
 | n,ys,x :: r=>∃ A B,ys=A ++ B∧Tree K 2 n A∧x=((n+A.length:Nat):Int) - 1∧Trees K (n+A.length) B r
theorem Trees.snoc {K:List ByteArray}{B:List Ex}:∀ {us:List Int}{n:Nat}{ys:List Ex},Trees K n ys us→Tree K 2 (n+ys.length) B→Trees K n (ys ++ B) (us ++ [((n+ys.length+B.length:Nat):Int) - 1])
 | [],n,ys,h,hB=>by
  have h:ys=[]:=h
  subst h
  exact ⟨B,[],by simp,hB,by simp,rfl⟩
 | x :: r,n,ys,h,hB=>by
  obtain ⟨A,C,rfl,hA,hx,hC⟩:=h
  have:=Trees.snoc hC (B:=B) (by simpa [Nat.add_assoc] using hB)
  exact ⟨A,C ++ B,by simp,hA,hx,by simpa [Nat.add_assoc] using this⟩
theorem Trees.known {K:List ByteArray}:∀ {us:List Int}{n:Nat}{ys:List Ex},Trees K n ys us→∀ e∈ys,za8 K e=true
 | [],n,ys,h=>by
  have h:ys=[]:=h
  subst h
  simp
 | x :: r,n,ys,h=>by
  obtain ⟨A,C,rfl,hA,_,hC⟩:=h
  intro e he
  rcases List.mem_append.1 he with he | he
  ·exact hA.known e he
  ·exact Trees.known hC e he
theorem Trees.spans {K:List ByteArray} (hK:∀ s∈K,gSym s.data.toList=true):∀ {us:List Int}{n:Nat}{ys:List Ex},Trees K n ys us→∀ (S:List Sp),S.length=n →
  ∃ T,T.length=ys.length∧(∀ r,zaq S (ys ++ r)=zaq (S ++ T) r)∧∀ U,zaN (S ++ T ++ U) us n=some (n+ys.length)
 | [],n,ys,h,S,hS=>by
  have h:ys=[]:=h
  subst h
  exact ⟨[],rfl,by simp,fun U=>rfl⟩
 | x :: r,n,ys,h,S,hS=>by
  obtain ⟨A,C,rfl,hA,hx,hC⟩:=h
  obtain ⟨TA,m,hl,_,hg⟩:=hA.spans hK (by decide) S hS
  obtain ⟨T,hT,hgT,hU⟩:=Trees.spans hK hC (S ++ TA ++ [(n,m)]) (by simp;omega)
  refine ⟨TA ++ [(n,m)] ++ T,by simp;omega,fun q=>?_,fun U=>?_⟩
  ·rw [List.append_assoc,hg,hgT]
   simp only [List.append_assoc]
  ·have hp:=hA.pos
   have hxn:x.toNat=n+A.length - 1:=by omega
   have e1:S ++ (TA ++ [(n,m)] ++ T) ++ U=S ++ TA ++ [(n,m)] ++ (T ++ U):=by simp
   have e2:S ++ (TA ++ [(n,m)] ++ T) ++ U=S ++ TA ++ [(n,m)] ++ T ++ U:=by simp
   have hget:(S ++ (TA ++ [(n,m)] ++ T) ++ U)[x.toNat]?=some (n,m):=by
    rw [e1,List.getElem?_append_left (by simp;omega)]
    exact zg2 _ _ _ (by simp;omega)
   have hlen:x<((S ++ (TA ++ [(n,m)] ++ T) ++ U).length:Int):=by simp;omega
   have:=hU U
   rw [← e2] at this
   unfold zaN
   rw [hget,if_pos (by simp only [Option.getD_some,Bool.and_eq_true,decide_eq_true_eq];exact ⟨by omega,hlen,trivial⟩),show x.toNat+1=n+A.length by omega,this]
   simp
   omega
def zcP (K:List ByteArray) (pos:Nat):Nat→List Ex→List Ac→Prop
 | _,ys,[]=>ys=[]
 | n,ys,a :: r=>∃ A B,ys=A ++ B∧Trees K n A a.args∧(zay a=true∧a.args.length≤6∧zbe pos a=true)∧zcP K pos (n+A.length) B r
theorem zcP.snoc {K:List ByteArray}{pos:Nat}{B:List Ex}{a:Ac} (ha:zay a=true∧a.args.length≤6∧zbe pos a=true):∀ {us:List Ac}{n:Nat}{ys:List Ex},zcP K pos n ys us→Trees K (n+ys.length) B a.args→zcP K pos n (ys ++ B) (us ++ [a])
 | [],n,ys,h,hB=>by
  have h:ys=[]:=h
  subst h
  exact ⟨B,[],by simp,hB,ha,rfl⟩
 | x :: r,n,ys,h,hB=>by
  obtain ⟨A,C,rfl,hA,hx,hC⟩:=h
  have:=zcP.snoc ha hC (B:=B) (by simpa [Nat.add_assoc] using hB)
  exact ⟨A,C ++ B,by simp,hA,hx,this⟩
theorem zcP.known {K:List ByteArray}{pos:Nat}:∀ {us:List Ac}{n:Nat}{ys:List Ex},zcP K pos n ys us→∀ e∈ys,za8 K e=true
 | [],n,ys,h=>by
  have h:ys=[]:=h
  subst h
  simp
 | x :: r,n,ys,h=>by
  obtain ⟨A,C,rfl,hA,_,hC⟩:=h
  intro e he
  rcases List.mem_append.1 he with he | he
  ·exact hA.known e he
  ·exact zcP.known hC e he
theorem zcP.refs {K:List ByteArray}{pos:Nat}:∀ {us:List Ac}{n:Nat}{ys:List Ex},zcP K pos n ys us→∀ a∈us,zbe pos a=true
 | [],n,ys,h=>by simp
 | x :: r,n,ys,h=>by
  obtain ⟨A,C,rfl,hA,hx,hC⟩:=h
  intro a ha
  rcases List.mem_cons.1 ha with rfl | ha
  ·exact hx.2.2
  ·exact zcP.refs hC a ha
theorem zcP.spans {K:List ByteArray}{pos:Nat} (hK:∀ s∈K,gSym s.data.toList=true):∀ {us:List Ac}{n:Nat}{ys:List Ex},zcP K pos n ys us→∀ (S:List Sp),S.length=n →
  ∃ T,T.length=ys.length∧zaq S ys=S ++ T∧∀ k,zb1 (S ++ T) us n k=none
 | [],n,ys,h,S,hS=>by
  have h:ys=[]:=h
  subst h
  exact ⟨[],rfl,by simp [zaq],fun k=>by simp [zb1,hS]⟩
 | x :: r,n,ys,h,S,hS=>by
  obtain ⟨A,C,rfl,hA,hx,hC⟩:=h
  obtain ⟨TA,hl,hg,hU⟩:=hA.spans hK S hS
  obtain ⟨T,hT,hgT,hk⟩:=zcP.spans hK hC (S ++ TA) (by simp;omega)
  refine ⟨TA ++ T,by simp;omega,?_,fun k=>?_⟩
  ·rw [hg,hgT,List.append_assoc]
  ·rw [← List.append_assoc]
   have:gAc (S ++ TA ++ T) x n=some (n+A.length):=by
    unfold gAc
    rw [if_pos (by simp only [Bool.and_eq_true,decide_eq_true_eq];exact ⟨hx.1,hx.2.1⟩)]
    exact hU T
   simp only [zb1,this]
   exact hk (k+1)
theorem zjQ {α:Type}{f:α→Bool}:∀ {l:List α}{k:Nat},(∀ x∈l,f x=true)→zaB f l k=none
 | [],k,_=>rfl
 | x :: r,k,h=>by
  simp only [zaB,h x (by simp),if_true]
  exact zjQ (fun y hy=>h y (by simp [hy]))
theorem zew {t:Tm}:∀ {ts:List Tm}{h0 here:List ByteArray},zap ts h0=some here→(asks t=true→memB t.var here=true)→zap (ts ++ [t]) h0=some (if t.kind==2 then here ++ [t.var] else here)
 | [],h0,here,h,ht=>by
  injection h with h
  subst h
  have hc:(asks t && !memB t.var h0)=false:=by
   cases ha:asks t
   ·rfl
   ·simp [ht ha]
  simp only [List.nil_append,zap,hc]
  rfl
 | x :: r,h0,here,h,ht=>by
  simp only [List.cons_append,zap] at h ⊢
  split at h
  ·cases h
  ·rename_i hc
   rw [if_neg hc]
   exact zew h ht
theorem zdE {p:Pt}{here:List ByteArray}:∀ {ps:List Pt}{k0 kn:List ByteArray}{k:Nat},za9 ps k0 k=.inr kn→zap p.terms kn=some here→za9 (ps ++ [p]) k0 k=.inr (if p.neg then kn else here)
 | [],k0,kn,k,h,ht=>by
  injection h with h
  subst h
  simp only [List.nil_append,za9,ht]
 | x :: r,k0,kn,k,h,ht=>by
  simp only [List.cons_append,za9] at h ⊢
  split at h
  ·cases h
  ·rename_i hh he
   first
   | exact zdE h ht
   | (rw [he];exact zdE h ht)
structure Drawn (K:List ByteArray) (pos:Nat) (r:Ru):Prop where
 name:gSym r.name.data.toList=true
 pats:r.pats.length≤6
 good:∀ p∈r.pats,gPt p=true
 known:za9 r.pats [] 1=.inr K
 words:∀ s∈K,gSym s.data.toList=true
 count:positives r.pats=pos
 npos:1≤pos∧pos≤3
 acts:r.acts.length≤8
 exprs:r.exprs.length≤60
 trees:zcP K pos 0 r.exprs r.acts
theorem Drawn.chk1 {K:List ByteArray}{pos:Nat}{r:Ru} (h:Drawn K pos r) {pre:List Ru} (hp:∀ o∈pre,o.name≠r.name):chk1 pre r=(0,0):=by
 obtain ⟨T,hT,hg,hk⟩:=h.trees.spans h.words [] rfl
 have hs:shape r=none:=by
  unfold shape
  rw [if_pos (by simp only [zco,Bool.and_eq_true,decide_eq_true_eq];exact ⟨h.name,h.pats,h.acts,h.exprs⟩),zjQ h.good]
  rw [List.nil_append] at hg hk
  show (if _ then _ else _)=none
  rw [hg,if_neg (by omega)]
  exact hk 1
 have ha:pre.any (fun o=>decide (o.name=r.name))=false:=by
  rw [List.any_eq_false]
  intro o ho
  simp [hp o ho]
 have hsc:scope r=none:=by
  unfold scope
  rw [h.known]
  refine zjQ fun a _=>?_
  simp only [zbU,Bool.or_eq_true]
  exact .inr (List.all_eq_true.2 fun e he=>h.trees.known e (List.mem_of_mem_take he))
 have hrf:refs r=none:=by
  unfold refs
  rw [h.count]
  exact zjQ h.trees.refs
 unfold Go.Proofs.YtmmdlgjmplddiaaGreat.chk1
 rw [hs]
 show (if _ then _ else if _ then _ else _)=_
 rw [ha,if_neg (by simp),if_pos (by rw [h.count];exact h.npos),hsc,hrf]
def nmK (k:Nat):ByteArray:=⟨#[114,(UInt8.ofNat (48+k))]⟩
theorem zmM (k:Nat) (h:k<10):gSym (nmK k).data.toList=true:=by
 have:∀ k:Fin 10,gSym (nmK k.val).data.toList=true:=by decide
 exact this ⟨k,h⟩
theorem zpt (i j:Nat) (hi:i<10) (hj:j<10) (h:i≠j):nmK i≠nmK j:=by
 have:∀ i j:Fin 10,i≠j→nmK i.val≠nmK j.val:=by decide
 exact this ⟨i,hi⟩ ⟨j,hj⟩ (fun e=>h (by injection e))
def DRu (k:Nat) (r:Ru):Prop:=r.name=nmK k∧∃ K pos,Drawn K pos r
theorem zfO:∀ {s pre:List Ru}{k:Nat},(∀ (i:Nat) (r:Ru),(pre ++ s)[i]?=some r→DRu i r)→(pre ++ s).length≤10→zcV pre s k=(0,0,0)
 | [],pre,k,_,_=>rfl
 | r :: s,pre,k,h,hl=>by
  obtain ⟨hn,K,pos,hr⟩:=h pre.length r (by simp)
  simp at hl
  have:chk1 pre r=(0,0):=hr.chk1 fun o ho=>by
   obtain ⟨i,hi,rfl⟩:=List.mem_iff_getElem.1 ho
   rw [(h i pre[i] (by rw [List.getElem?_append_left hi];simp)).1,hn]
   exact zpt _ _ (by omega) (by omega) (by omega)
  unfold zcV
  rw [this,if_pos rfl]
  exact zfO (by simpa using h) (by simp;omega)
theorem zmd {rs:List Ru} (h:∀ (i:Nat) (r:Ru),rs[i]?=some r→DRu i r) (hl:rs.length≤10):chk rs=(0,0,0):=by
 unfold chk
 rw [if_pos (by omega)]
 exact zfO (pre:=[]) (by simpa using h) (by simpa using hl)
end Go.Proofs.YtmmdlgjmplddiaaGreat
namespace Go.Proofs.YtmmdlgjmplddiaaGreat
open Go.RowKit
end Go.Proofs.YtmmdlgjmplddiaaGreat
namespace Go.Proofs.YtmmdlgjmplddiaaGreat
theorem zdC {α:Type} (f:α→Bool):∀ (l:List α) (k:Nat),zaB f l k=none→∀ x∈l,f x=true
 | [],_,_,x,hx=>by simp at hx
 | y :: r,k,h,x,hx=>by
  unfold zaB at h
  cases hy:f y
  ·rw [hy] at h
   simp at h
  ·rw [hy] at h
   simp only [if_true] at h
   rcases List.mem_cons.1 hx with rfl | hx
   ·exact hy
   ·exact zdC f r (k+1) h x hx
theorem zgo {r:Ru} (h:shape r=none):r.pats.length≤6∧∀ p∈r.pats,gPt p=true:=by
 unfold shape at h
 split at h
 ·rename_i hh
  simp only [zco,Bool.and_eq_true,decide_eq_true_eq] at hh
  refine ⟨hh.2.1,?_⟩
  cases hb:zaB gPt r.pats 1 with
  | some i=>rw [hb] at h;cases h
  | none=>exact zdC gPt r.pats 1 hb
 ·cases h
theorem zkn {pre:List Ru}{r:Ru} (h:(chk1 pre r).1=0):shape r=none∧positives r.pats≤3:=by
 unfold chk1 at h
 cases hs:shape r with
 | some i=>rw [hs] at h;simp at h
 | none=>
  refine ⟨rfl,?_⟩
  rw [hs] at h
  simp only at h
  split at h
  ·simp at h
  ·split at h
   ·rename_i hp
    exact hp.2
   ·simp at h
theorem zgv:∀ (l pre:List Ru) (k:Nat),(zcV pre l k).1=0→∀ r∈l,shape r=none∧positives r.pats≤3
 | [],_,_,_,r,hr=>by simp at hr
 | q :: s,pre,k,h,r,hr=>by
  unfold zcV at h
  split at h
  ·rename_i h0
   rcases List.mem_cons.1 hr with rfl | hr
   ·exact zkn h0
   ·exact zgv s _ _ h r hr
  ·rename_i h0
   exact absurd h h0
theorem zeV {rs:List Ru} (h:(chk rs).1=0):rs.length≤16∧∀ r∈rs,shape r=none∧positives r.pats≤3:=by
 unfold chk at h
 split at h
 ·rename_i hl
  exact ⟨hl,zgv rs [] 0 h⟩
 ·simp at h
theorem zd7 {rs:List Ru} (h:(chk rs).1=0) {r:Ru} (hr:r∈rs):r.pats.length≤6∧(∀ p∈r.pats,p.terms.length≤6)∧positives r.pats≤3:=by
 obtain ⟨h1,h2⟩:=(zeV h).2 r hr
 obtain ⟨h3,h4⟩:=zgo h1
 refine ⟨h3,fun p hp=>?_,h2⟩
 have:=h4 p hp
 simp only [gPt,Bool.and_eq_true,decide_eq_true_eq] at this
 exact this.2.1
end Go.Proofs.YtmmdlgjmplddiaaGreat
namespace Go.Proofs.YtmmdlgjmplddiaaGreat
def zbl (bs:List Bd) (s:ByteArray):Option V:=
 match bs with
 | []=>none
 | b :: r=>if b.var=s then some b.val else zbl r s
theorem zci (b:Bd) (r:List Bd) (s:ByteArray):zbl (b :: r) s=if b.var=s then some b.val else zbl r s:=rfl
end Go.Proofs.YtmmdlgjmplddiaaGreat
