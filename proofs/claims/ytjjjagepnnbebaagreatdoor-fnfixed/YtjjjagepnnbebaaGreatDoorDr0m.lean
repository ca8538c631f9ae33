/-
  OUR OWN TEXT. Rules that were drawn are checked: the plain mathematics.
-/
import Derived.Test.YtjjjagepnnbebaaGreatDoorKac
namespace Go.Proofs.YtjjjagepnnbebaaGreatDoor
abbrev emB:ByteArray:=⟨#[]⟩
def Leaf(K:List ByteArray)(e:Ex):Prop:=(∃ v,gVal v=true/\e=⟨0,0,emB,v,0,0⟩)∨∃ s,s∈K/\e=⟨1,0,s,(0,0,emB),0,0⟩
def opE(op a b:Int):Ex:=⟨2,op,emB,(0,0,emB),a,b⟩
def Tree(K:List ByteArray):Nat->Nat->List Ex->Prop
 | 0,_,ys=>∃ e,ys=[e]/\Leaf K e
 | d+1,n,ys=>(∃ e,ys=[e]/\Leaf K e)∨∃ A B op,isAr op=true/\Tree K d n A/\Tree K d (n+A.length) B/\ys=A ++ (B ++ [opE op (((n+A.length:Nat):Int) - 1) (((n+A.length+B.length:Nat):Int) - 1)])
theorem Tree.leaf{K:List ByteArray}{d n:Nat}{e:Ex}(h:Leaf K e):Tree K d n [e]:=by
 cases d with
 | zero=>exact ⟨e,rfl,h⟩
 | succ d=>exact .inl ⟨e,rfl,h⟩
theorem Tree.pos{K:List ByteArray}{d n:Nat}{ys:List Ex}(h:Tree K d n ys):1<=ys.length:=by
 cases d with
 | zero=>
  obtain ⟨e,rfl,_⟩:=h;exact Nat.le_refl 1
 | succ d=>
  rcases h with ⟨e,rfl,_⟩ | ⟨A,B,op,_,_,_,rfl⟩
  ·exact Nat.le_refl 1
  simp only[List.length_append,List.length_cons,List.length_nil];omega
theorem zjU:(⟨#[]⟩:ByteArray).toList=[]:=by decide +kernel
theorem zdo:isE ⟨#[]⟩=true:=by rw[isE,zjU];rfl
theorem zsm:isE emB=true:=zdo
theorem zc6:zbm ((0,0,⟨#[]⟩):V)=true:=by
 have:zbm ((0,0,⟨#[]⟩):V)=isE ⟨#[]⟩:=rfl;rw[this,zdo]
theorem zl6:zbm ((0,0,emB):V)=true:=zc6
theorem zoK(n:Int):gVal (0,n,⟨#[]⟩)=true:=by
 have:gVal (0,n,⟨#[]⟩)=((⟨#[]⟩:ByteArray).toList.isEmpty || false):=rfl;rw[this,zjU];rfl
theorem Tree.known{K:List ByteArray}:∀ {d n:Nat}{ys:List Ex},Tree K d n ys->∀ e∈ys,zbD K e=true:=by
 have E:∀ {e:Ex},Leaf K e->zbD K e=true:=by
  rintro e (⟨v,_,rfl⟩ | ⟨s,hs,rfl⟩)
  ·rfl
  have:memB s K=true:=List.any_eq_true.2 ⟨s,hs,by simp⟩;simp[zbD,this]
 intro d
 induction d with
 | zero=>
  rintro n ys ⟨e,rfl,h⟩ x hx;simp at hx;exact hx ▸ E h
 | succ d G=>
  rintro n ys (⟨e,rfl,h⟩ | ⟨A,B,op,_,I,hB,rfl⟩) x hx
  ·simp at hx;exact hx ▸ E h
  simp at hx;rcases hx with hx | hx | hx
  ·exact G I x hx
  ·exact G hB x hx
  rw[hx];rfl
theorem zeg{S:List Sp}{e:Ex}{s:Sp}(h:zaJ S e=some s)(r:List Ex):zat S (e :: r)=zat (S ++ [s]) r:=by
 simp only[zat,h]
theorem Leaf.span{K:List ByteArray}(hK:∀ s∈K,gSym s.data.toList=true){e:Ex}(h:Leaf K e)(S:List Sp):zaJ S e=some (S.length,0):=by
 rcases h with ⟨v,hv,rfl⟩ | ⟨s,hs,rfl⟩
 ·simp[zaJ,zaZ,hv,zsm]
 simp[zaJ,zaZ,hK s hs,zl6]
theorem zgu{α:Type}(l:List α)(x:α)(i:Nat)(h:i=l.length):(l ++ [x])[i]?=some x:=by subst h;simp
theorem Tree.spans{K:List ByteArray}(hK:∀ s∈K,gSym s.data.toList=true):∀ {d:Nat},d<=20->∀ {n:Nat}{ys:List Ex},Tree K d n ys->∀ (S:List Sp),S.length=n ->
  ∃ T m,T.length+1=ys.length/\m<=d/\∀ r,zat S (ys ++ r)=zat (S ++ T ++ [(n,m)]) r:=by
 intro d
 induction d with
 | zero=>
  rintro _ n ys ⟨e,rfl,h⟩ S hS;refine ⟨[],0,rfl,Nat.le_refl _,fun r=>?_⟩;rw[List.singleton_append,zeg (h.span hK S),hS,List.append_nil]
 | succ d ih=>
  rintro hd n ys (⟨e,rfl,h⟩ | ⟨A,B,op,ad,hA,hB,rfl⟩) S hS
  ·refine ⟨[],0,rfl,Nat.zero_le _,fun r=>?_⟩;rw[List.singleton_append,zeg (h.span hK S),hS,List.append_nil]
  obtain ⟨I,E,al,ag,ae⟩:=ih (by omega) hA S hS;obtain ⟨U,G,ak,af,Z⟩:=ih (by omega) hB (S ++ I ++ [(n,E)]) (by simp;omega);have ab:(S ++ I ++ [(n,E)]).length=n+A.length:=by simp;omega
  have X:(S ++ I ++ [(n,E)] ++ U ++ [(n+A.length,G)]).length=n+A.length+B.length:=by simp;omega
  have ah:=hA.pos;have aj:=hB.pos;have hb:(S ++ I ++ [(n,E)] ++ U ++ [(n+A.length,G)])[((((n+A.length+B.length:Nat):Int) - 1)).toNat]?=some (n+A.length,G):=zgu _ _ _ (by simp;omega);have ha:(S ++ I ++ [(n,E)] ++ U ++ [(n+A.length,G)])[((((n+A.length:Nat):Int) - 1)).toNat]?=some (n,E):=by
   rw[List.append_assoc,List.getElem?_append_left (by rw[ab];omega)];exact zgu _ _ _ (by simp;omega)
  have O:zaJ (S ++ I ++ [(n,E)] ++ U ++ [(n+A.length,G)]) (opE op (((n+A.length:Nat):Int) - 1) (((n+A.length+B.length:Nat):Int) - 1))=some (n,1+max E G):=by
   have ho:opOk (S ++ I ++ [(n,E)] ++ U ++ [(n+A.length,G)]) (opE op (((n+A.length:Nat):Int) - 1) (((n+A.length+B.length:Nat):Int) - 1))=true:=by
    unfold opOk;rw[X];show (isAr op && (isE ⟨#[]⟩ && (zbm ((0,0,⟨#[]⟩):V) && _)))=true;rw[ad,zdo,zc6];show (decide (((n+A.length+B.length:Nat):Int) - 1=((n+A.length+B.length:Nat):Int) - 1) && (decide (0<=((n+A.length+B.length:Nat):Int) - 1) && decide (0<=((n+A.length:Nat):Int) - 1)))=true;simp only[Bool.and_eq_true,decide_eq_true_eq];exact ⟨trivial,by omega,by omega⟩
   unfold zaJ;rw[if_neg (show ¬ ((opE op (((n+A.length:Nat):Int) - 1) (((n+A.length+B.length:Nat):Int) - 1)).kind==0)=true from fun h=>by cases h),if_neg (show ¬ ((opE op (((n+A.length:Nat):Int) - 1) (((n+A.length+B.length:Nat):Int) - 1)).kind==1)=true from fun h=>by cases h),if_pos (show ((opE op (((n+A.length:Nat):Int) - 1) (((n+A.length+B.length:Nat):Int) - 1)).kind==2)=true from rfl),if_pos ho];show zdq _ (((n+A.length:Nat):Int) - 1) (((n+A.length+B.length:Nat):Int) - 1)=_;unfold zdq;simp only[hb,ha];rw[if_pos];simp only[Bool.and_eq_true,decide_eq_true_eq];exact ⟨by first | trivial | rfl | omega,by omega⟩
  refine ⟨I ++ [(n,E)] ++ U ++ [(n+A.length,G)],1+max E G,by simp;omega,by omega,fun r=>?_⟩;have e1:A ++ (B ++ [opE op (((n+A.length:Nat):Int) - 1) (((n+A.length+B.length:Nat):Int) - 1)]) ++ r=A ++ (B ++ (opE op (((n+A.length:Nat):Int) - 1) (((n+A.length+B.length:Nat):Int) - 1) :: r)):=by simp
  rw[e1,ae,Z,zeg O];simp only[List.append_assoc]
def Trees(K:List ByteArray):Nat->List Ex->List Int->Prop
 | _,ys,[]=>ys=[]
 | n,ys,x :: r=>∃ A B,ys=A ++ B/\Tree K 2 n A/\x=((n+A.length:Nat):Int) - 1/\Trees K (n+A.length) B r
theorem Trees.snoc{K:List ByteArray}{B:List Ex}:∀ {E:List Int}{n:Nat}{ys:List Ex},Trees K n ys E->Tree K 2 (n+ys.length) B->Trees K n (ys ++ B) (E ++ [((n+ys.length+B.length:Nat):Int) - 1])
 | [],n,ys,h,hB=>by
  have h:ys=[]:=h
  subst h
  exact ⟨B,[],by simp,hB,by simp,rfl⟩
 | x :: r,n,ys,h,hB=>by
  obtain ⟨A,C,rfl,G,hx,I⟩:=h
  have:=Trees.snoc I (B:=B) (by simpa[Nat.add_assoc] using hB)
  exact ⟨A,C ++ B,by simp,G,hx,by simpa[Nat.add_assoc] using this⟩
theorem Trees.known{K:List ByteArray}:∀ {E:List Int}{n:Nat}{ys:List Ex},Trees K n ys E->∀ e∈ys,zbD K e=true
 | [],n,ys,h=>by
  have h:ys=[]:=h
  subst h
  simp
 | x :: r,n,ys,h=>by
  obtain ⟨A,C,rfl,G,_,I⟩:=h
  intro e he
  rcases List.mem_append.1 he with he | he
  ·exact G.known e he
  exact Trees.known I e he
theorem Trees.spans{K:List ByteArray}(hK:∀ s∈K,gSym s.data.toList=true):∀ {X:List Int}{n:Nat}{ys:List Ex},Trees K n ys X->∀ (S:List Sp),S.length=n ->
  ∃ T,T.length=ys.length/\(∀ r,zat S (ys ++ r)=zat (S ++ T) r)/\∀ U,zaT (S ++ T ++ U) X n=some (n+ys.length)
 | [],n,ys,h,S,hS=>by
  have h:ys=[]:=h
  subst h
  exact ⟨[],rfl,by simp,fun U=>rfl⟩
 | x :: r,n,ys,h,S,hS=>by
  obtain ⟨A,C,rfl,Z,hx,hC⟩:=h
  obtain ⟨E,m,hl,_,hg⟩:=Z.spans hK (by decide) S hS
  obtain ⟨T,hT,O,hU⟩:=Trees.spans hK hC (S ++ E ++ [(n,m)]) (by simp;omega)
  refine ⟨E ++ [(n,m)] ++ T,by simp;omega,fun q=>?_,fun U=>?_⟩
  ·rw[List.append_assoc,hg,O]
   simp only[List.append_assoc]
  have hp:=Z.pos
  have ab:x.toNat=n+A.length - 1:=by omega
  have e1:S ++ (E ++ [(n,m)] ++ T) ++ U=S ++ E ++ [(n,m)] ++ (T ++ U):=by simp
  have e2:S ++ (E ++ [(n,m)] ++ T) ++ U=S ++ E ++ [(n,m)] ++ T ++ U:=by simp
  have I:(S ++ (E ++ [(n,m)] ++ T) ++ U)[x.toNat]?=some (n,m):=by
   rw[e1,List.getElem?_append_left (by simp;omega)];exact zgu _ _ _ (by simp;omega)
  have G:x<((S ++ (E ++ [(n,m)] ++ T) ++ U).length:Int):=by simp;omega
  have:=hU U;rw[<- e2]at this;unfold zaT;rw[I,if_pos (by simp only[Option.getD_some,Bool.and_eq_true,decide_eq_true_eq];exact ⟨by omega,G,trivial⟩),show x.toNat+1=n+A.length by omega,this];simp;omega
def zdp(K:List ByteArray)(pos:Nat):Nat->List Ex->List Ac->Prop
 | _,ys,[]=>ys=[]
 | n,ys,a :: r=>∃ A B,ys=A ++ B/\Trees K n A a.args/\(zav a=true/\a.args.length<=6/\zbI pos a=true)/\zdp K pos (n+A.length) B r
theorem zdp.snoc{K:List ByteArray}{pos:Nat}{B:List Ex}{a:Ac}(ha:zav a=true/\a.args.length<=6/\zbI pos a=true):∀ {E:List Ac}{n:Nat}{ys:List Ex},zdp K pos n ys E->Trees K (n+ys.length) B a.args->zdp K pos n (ys ++ B) (E ++ [a])
 | [],n,ys,h,hB=>by
  have h:ys=[]:=h
  subst h
  exact ⟨B,[],by simp,hB,ha,rfl⟩
 | x :: r,n,ys,h,hB=>by
  obtain ⟨A,C,rfl,G,hx,I⟩:=h
  have:=zdp.snoc ha I (B:=B) (by simpa[Nat.add_assoc] using hB)
  exact ⟨A,C ++ B,by simp,G,hx,this⟩
theorem zdp.known{K:List ByteArray}{pos:Nat}:∀ {E:List Ac}{n:Nat}{ys:List Ex},zdp K pos n ys E->∀ e∈ys,zbD K e=true
 | [],n,ys,h=>by
  have h:ys=[]:=h
  subst h
  simp
 | x :: r,n,ys,h=>by
  obtain ⟨A,C,rfl,G,_,I⟩:=h
  intro e he
  rcases List.mem_append.1 he with he | he
  ·exact G.known e he
  exact zdp.known I e he
theorem zdp.refs{K:List ByteArray}{pos:Nat}:∀ {E:List Ac}{n:Nat}{ys:List Ex},zdp K pos n ys E->∀ a∈E,zbI pos a=true
 | [],n,ys,h=>by simp
 | x :: r,n,ys,h=>by
  obtain ⟨A,C,rfl,I,hx,G⟩:=h
  intro a ha
  rcases List.mem_cons.1 ha with rfl | ha
  ·exact hx.2.2
  exact zdp.refs G a ha
theorem zdp.spans{K:List ByteArray}{pos:Nat}(hK:∀ s∈K,gSym s.data.toList=true):∀ {I:List Ac}{n:Nat}{ys:List Ex},zdp K pos n ys I->∀ (S:List Sp),S.length=n ->
  ∃ T,T.length=ys.length/\zat S ys=S ++ T/\∀ k,zbP (S ++ T) I n k=none
 | [],n,ys,h,S,hS=>by
  have h:ys=[]:=h
  subst h
  exact ⟨[],rfl,by simp[zat],fun k=>by simp[zbP,hS]⟩
 | x :: r,n,ys,h,S,hS=>by
  obtain ⟨A,C,rfl,U,hx,O⟩:=h
  obtain ⟨E,hl,hg,X⟩:=U.spans hK S hS
  obtain ⟨T,Z,G,hk⟩:=zdp.spans hK O (S ++ E) (by simp;omega)
  refine ⟨E ++ T,by simp;omega,?_,fun k=>?_⟩
  ·rw[hg,G,List.append_assoc]
  rw[<- List.append_assoc]
  have:gAc (S ++ E ++ T) x n=some (n+A.length):=by
   unfold gAc;rw[if_pos (by simp only[Bool.and_eq_true,decide_eq_true_eq];exact ⟨hx.1,hx.2.1⟩)];exact X T
  simp only[zbP,this];exact hk (k+1)
theorem zjv{α:Type}{f:α->Bool}:∀ {l:List α}{k:Nat},(∀ x∈l,f x=true)->zaI f l k=none
 | [],k,_=>rfl
 | x :: r,k,h=>by
  simp only[zaI,h x (by simp),if_true]
  exact zjv (fun y hy=>h y (by simp[hy]))
theorem zge{t:Tm}:∀ {ts:List Tm}{E here:List ByteArray},zaz ts E=some here->(asks t=true->memB t.var here=true)->zaz (ts ++ [t]) E=some (if t.kind==2 then here ++ [t.var] else here)
 | [],E,here,h,ht=>by
  injection h with h
  subst h
  have G:(asks t && !memB t.var E)=false:=by
   cases ha:asks t
   ·rfl
   simp[ht ha]
  simp only[List.nil_append,zaz,G];rfl
 | x :: r,E,here,h,ht=>by
  simp only[List.cons_append,zaz]at h ⊢;split at h
  ·cases h
  rename_i G;rw[if_neg G];exact zge h ht
theorem ze2{p:Pt}{here:List ByteArray}:∀ {ps:List Pt}{G E:List ByteArray}{k:Nat},zbO ps G k=.inr E->zaz p.terms E=some here->zbO (ps ++ [p]) G k=.inr (if p.neg then E else here)
 | [],G,E,k,h,ht=>by
  injection h with h
  subst h
  simp only[List.nil_append,zbO,ht]
 | x :: r,G,E,k,h,ht=>by
  simp only[List.cons_append,zbO]at h ⊢
  split at h
  ·cases h
  rename_i I he
  first
  | exact ze2 h ht
  | (rw[he];exact ze2 h ht)
structure Drawn (K:List ByteArray) (pos:Nat) (r:Ru):Prop where
 name:gSym r.name.data.toList=true
 pats:r.pats.length<=6
 good:∀ p∈r.pats,gPt p=true
 known:zbO r.pats [] 1=.inr K
 words:∀ s∈K,gSym s.data.toList=true
 count:positives r.pats=pos
 npos:1<=pos/\pos<=3
 acts:r.acts.length<=8
 exprs:r.exprs.length<=60
 trees:zdp K pos 0 r.exprs r.acts
theorem Drawn.chk1{K:List ByteArray}{pos:Nat}{r:Ru}(h:Drawn K pos r){pre:List Ru}(hp:∀ o∈pre,o.name≠r.name):chk1 pre r=(0,0):=by
 obtain ⟨T,I,hg,hk⟩:=h.trees.spans h.words [] rfl;have hs:shape r=none:=by
  unfold shape;rw[if_pos (by simp only[zck,Bool.and_eq_true,decide_eq_true_eq];exact ⟨h.name,h.pats,h.acts,h.exprs⟩),zjv h.good];rw[List.nil_append]at hg hk;show (if _ then _ else _)=none;rw[hg,if_neg (by omega)];exact hk 1
 have ha:pre.any (fun o=>decide (o.name=r.name))=false:=by
  rw[List.any_eq_false];intro o ho;simp[hp o ho]
 have G:scope r=none:=by
  unfold scope;rw[h.known];refine zjv fun a _=>?_;simp only[zcx,Bool.or_eq_true];exact .inr (List.all_eq_true.2 fun e he=>h.trees.known e (List.mem_of_mem_take he))
 have E:refs r=none:=by
  unfold refs;rw[h.count];exact zjv h.trees.refs
 unfold Go.Proofs.YtjjjagepnnbebaaGreatDoor.chk1;rw[hs];show (if _ then _ else if _ then _ else _)=_;rw[ha,if_neg (by simp),if_pos (by rw[h.count];exact h.npos),G,E]
def nmK(k:Nat):ByteArray:=⟨#[114,(UInt8.ofNat (48+k))]⟩
theorem zpC(k:Nat)(h:k<10):gSym (nmK k).data.toList=true:=by
 have:∀ k:Fin 10,gSym (nmK k.val).data.toList=true:=by decide
 exact this ⟨k,h⟩
theorem zrZ(i j:Nat)(hi:i<10)(hj:j<10)(h:i≠j):nmK i≠nmK j:=by
 have:∀ i j:Fin 10,i≠j->nmK i.val≠nmK j.val:=by decide
 exact this ⟨i,hi⟩ ⟨j,hj⟩ (fun e=>h (by injection e))
def DRu(k:Nat)(r:Ru):Prop:=r.name=nmK k/\∃ K pos,Drawn K pos r
theorem zgW:∀ {s pre:List Ru}{k:Nat},(∀ (i:Nat) (r:Ru),(pre ++ s)[i]?=some r->DRu i r)->(pre ++ s).length<=10->zd1 pre s k=(0,0,0)
 | [],pre,k,_,_=>rfl
 | r :: s,pre,k,h,hl=>by
  obtain ⟨hn,K,pos,hr⟩:=h pre.length r (by simp)
  simp at hl
  have:chk1 pre r=(0,0):=hr.chk1 fun o ho=>by
   obtain ⟨i,hi,rfl⟩:=List.mem_iff_getElem.1 ho
   rw[(h i pre[i] (by rw[List.getElem?_append_left hi];simp)).1,hn]
   exact zrZ _ _ (by omega) (by omega) (by omega)
  unfold zd1
  rw[this,if_pos rfl]
  exact zgW (by simpa using h) (by simp;omega)
theorem zn4{rs:List Ru}(h:∀ (i:Nat) (r:Ru),rs[i]?=some r->DRu i r)(hl:rs.length<=10):chk rs=(0,0,0):=by
 unfold chk;rw[if_pos (by omega)];exact zgW (pre:=[]) (by simpa using h) (by simpa using hl)
end Go.Proofs.YtjjjagepnnbebaaGreatDoor
